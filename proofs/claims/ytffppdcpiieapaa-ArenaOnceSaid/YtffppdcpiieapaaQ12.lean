/- A turn of any run, by contract. · A turn of any run, by contract: its ways. · A run of any calls, as mathematics; a turn of it, and its end, by contract. · Calls of the arena are begun, by contract; their machines ask for what may be asked for. -/
import Derived.Test.YtffppdcpiieapaaQ8
import Derived.Test.YtffppdcpiieapaaQ11
namespace Go.Proofs.Ytffppdcpiieapaa.Drivec
open Go.RowKit Go.Proofs.Ytffppdcpiieapaa.Memc Go.Proofs.Ytffppdcpiieapaa.Procc Go.Proofs.Ytffppdcpiieapaa.Storec Go.Proofs.Ytffppdcpiieapaa.Refc Go.Proofs.Ytffppdcpiieapaa.Machc
set_option linter.unusedVariables false
set_option maxRecDepth 100000

theorem SafeL.spared {Pd : Nat → Prop} {w w' : World} {l : List Cap1} (hs : SafeL l) (hk : Kept w l) (ho : Only Pd w w') (h3 : Spared Pd w) : Kept w' l := fun x hx => (hk x hx).only ho (h3 _ _ _ (hk x hx) ⟨(hs x hx).2.2.1, (hs x hx).2.2.2.1, (hs x hx).2.2.2.2.1, (hs x hx).2.2.2.2.2.1, (hs x hx).1, (hs x hx).2.1⟩)
theorem On.prow {w : World} {base : Nat} {Z : Mac} {P : Nat} {q : Sl} {f : FS} {n : Nat} (h : On w base Z P q f n) : (∃ cs, Blk w P 126 cs) ∧ (∃ m xs, Row w base 194 2 q m xs) ∧ base ≤ P := by
  obtain ⟨F, cs, l, f0, fs, e1, e2, e3, e4, e5, e6, e7, e8, e9, e10⟩ := h
  exact ⟨⟨_, e5⟩, ⟨_, _, e6⟩, e10⟩
/-- what a step touches is none of what is not of these kinds -/
theorem spared_step {w : World} {gC gT P base nS nK nF : Nat} {c1 c2 c3 : Array Value} {sS sK q : Sl} {x1 x2 x3 : List Value} (hC : Blk w gC 102 c1) (hT : Blk w gT 104 c2) (hP : Blk w P 126 c3) (hS : Row w base 59 8 sS nS x1) (hK : Row w base 55 7 sK nK x2) (hq : Row w base 194 2 q nF x3) :
    Spared (fun g => (g = gT ∨ g = gC ∨ g = P) ∨ bl sS g ∨ bl sK g ∨ bl q g) w := fun g t cs hg ⟨n1, n2, n3, n4, n5, n6⟩ => by
  rintro ((h | h | h) | h | h | h)
  · exact Blk.ne hg hT n2 h
  · exact Blk.ne hg hC n1 h
  · exact Blk.ne hg hP n5 h
  · exact hS.ne hg (Ne.symm n3) g h rfl
  · exact hK.ne hg (Ne.symm n4) g h rfl
  · exact hq.ne hg (Ne.symm n6) g h rfl
theorem spared_start {w : World} {gC gT base nK : Nat} {c1 c2 : Array Value} {sK : Sl} {x2 : List Value} (hC : Blk w gC 102 c1) (hT : Blk w gT 104 c2) (hK : Row w base 55 7 sK nK x2) :
    Spared (fun g => g = gT ∨ g = gC ∨ bl sK g) w := fun g t cs hg ⟨n1, n2, n3, n4, n5, n6⟩ => by
  rintro (h | h | h)
  · exact Blk.ne hg hT n2 h
  · exact Blk.ne hg hC n1 h
  · exact hK.ne hg (Ne.symm n4) g h rfl
theorem on_step {w w' : World} {gC gT P P' base nS nK nF n n' : Nat} {c1 c2 c3 : Array Value} {sS sK q q' : Sl} {x1 x2 x3 : List Value} {Z : Mac} {f : FS} (h : On w base Z P' q' f n) (hC : Blk w gC 102 c1) (hT : Blk w gT 104 c2) (hP : Blk w P 126 c3) (hS : Row w base 59 8 sS nS x1) (hK : Row w base 55 7 sK nK x2) (hq : Row w base 194 2 q nF x3)
    (hs : P' ≠ P ∧ ∀ g, bl q' g → ¬ bl q g) (ho : Only (fun g => (g = gT ∨ g = gC ∨ g = P) ∨ bl sS g ∨ bl sK g ∨ bl q g) w w') (hn : n ≤ n') : On w' base Z P' q' f n' := by
  obtain ⟨⟨cp, hp⟩, ⟨m, xs, hr⟩, _⟩ := h.prow
  refine h.only ho ?_ ?_ (spared_step hC hT hP hS hK hq) hn
  · rintro ((e | e | e) | e | e | e)
    · exact Blk.ne hp hT (by decide) e
    · exact Blk.ne hp hC (by decide) e
    · exact hs.1 e
    · exact hS.ne hp (by decide) _ e rfl
    · exact hK.ne hp (by decide) _ e rfl
    · exact hq.ne hp (by decide) _ e rfl
  · rintro g hg ((e | e | e) | e | e | e)
    · exact hr.ne hT (by decide) g hg e
    · exact hr.ne hC (by decide) g hg e
    · exact hr.ne hP (by decide) g hg e
    · exact hr.ne_row hS (by decide) g hg g e rfl
    · exact hr.ne_row hK (by decide) g hg g e rfl
    · exact hs.2 g hg e
theorem on_start {w w' : World} {gC gT P' base nK n n' : Nat} {c1 c2 : Array Value} {sK q' : Sl} {x2 : List Value} {Z : Mac} {f : FS} (h : On w base Z P' q' f n) (hC : Blk w gC 102 c1) (hT : Blk w gT 104 c2) (hK : Row w base 55 7 sK nK x2)
    (ho : Only (fun g => g = gT ∨ g = gC ∨ bl sK g) w w') (hn : n ≤ n') : On w' base Z P' q' f n' := by
  obtain ⟨⟨cp, hp⟩, ⟨m, xs, hr⟩, _⟩ := h.prow
  refine h.only ho ?_ ?_ (spared_start hC hT hK) hn
  · rintro (e | e | e)
    · exact Blk.ne hp hT (by decide) e
    · exact Blk.ne hp hC (by decide) e
    · exact hK.ne hp (by decide) _ e rfl
  · rintro g hg (e | e | e)
    · exact hr.ne hT (by decide) g hg e
    · exact hr.ne hC (by decide) g hg e
    · exact hr.ne_row hK (by decide) g hg g e rfl
theorem frg_step {w w' : World} {B gC gT P base nS nK nF : Nat} {c1 c2 c3 : Array Value} {sS sK q : Sl} {x1 x2 x3 : List Value} (hC : Blk w gC 102 c1) (hT : Blk w gT 104 c2) (hP : Blk w P 126 c3) (hS : Row w base 59 8 sS nS x1) (hK : Row w base 55 7 sK nK x2) (hq : Row w base 194 2 q nF x3)
    (hB : B ≤ base ∧ base ≤ gC ∧ base ≤ gT ∧ base ≤ P) (ho : Only (fun g => (g = gT ∨ g = gC ∨ g = P) ∨ bl sS g ∨ bl sK g ∨ bl q g) w w') : FrG B w w' := ho.mono (by
  rintro g ((h | h | h) | h | h | h)
  · subst h; exact frg_mem hT (by omega) (.inr (.inl rfl))
  · subst h; exact frg_mem hC (by omega) (.inl rfl)
  · subst h; exact frg_mem hP (by omega) (.inr (.inr (.inr (.inr (.inl rfl)))))
  · obtain ⟨ds, hd⟩ := hS.blk h
    exact frg_mem hd (Nat.le_trans hB.1 (hS.lt h).1) (.inr (.inr (.inl rfl)))
  · obtain ⟨ds, hd⟩ := hK.blk h
    exact frg_mem hd (Nat.le_trans hB.1 (hK.lt h).1) (.inr (.inr (.inr (.inl rfl))))
  · obtain ⟨ds, hd⟩ := hq.blk h
    exact frg_mem hd (Nat.le_trans hB.1 (hq.lt h).1) (.inr (.inr (.inr (.inr (.inr rfl))))))
theorem frg_start {w w' : World} {B gC gT base nK : Nat} {c1 c2 : Array Value} {sK : Sl} {x2 : List Value} (hC : Blk w gC 102 c1) (hT : Blk w gT 104 c2) (hK : Row w base 55 7 sK nK x2)
    (hB : B ≤ base ∧ base ≤ gC ∧ base ≤ gT) (ho : Only (fun g => g = gT ∨ g = gC ∨ bl sK g) w w') : FrG B w w' := ho.mono (by
  rintro g (h | h | h)
  · subst h; exact frg_mem hT (by omega) (.inr (.inl rfl))
  · subst h; exact frg_mem hC (by omega) (.inl rfl)
  · obtain ⟨ds, hd⟩ := hK.blk h
    exact frg_mem hd (Nat.le_trans hB.1 (hK.lt h).1) (.inr (.inr (.inr (.inl rfl)))))
/-- what a turn comes to -/
def TurnedG (w : World) (B base gC gT T Bf : Nat) (bs : Array Value) (lb : List Cap1) (Z : Mac) (ls : List (List (Int × Int))) (s : RS) (e : Ending) (w' : World) : Prop :=
  e = .returned (.tuple #[]) ∧ InvG w' B base gC gT T Bf bs lb Z ls s ∧ FrG B w w'
theorem onB_set {s : RS} {l : List Int} {i j : Nat} {v : Int} (hj : i ≠ j) (h : ∃ k : Nat, (l.set i v)[j]? = some (k : Int)) : ∃ k : Nat, l[j]? = some (k : Int) := by
  obtain ⟨k, hk⟩ := h
  rw [List.getElem?_set_ne hj] at hk
  exact ⟨k, hk⟩

set_option maxHeartbeats 1000000 in
theorem stepg_inv (w : World) (B base gC gT T Bf : Nat) (bs : Array Value) (lb : List Cap1) (Z : Mac) (ls : List (List (Int × Int))) (s : RS) (h : InvG w B base gC gT T Bf bs lb Z ls s) (i k : Nat) (f : FS) (hi : i < T) (hk : s.call[i]? = some (k : Int)) (hf : s.on[i]? = some f) (hok : (Z.ask f).ok) (hn : s.steps.length < 90000 ∧ s.calls.length < 90000) :
    Calls Try.prog 88 #[.pointer (some ⟨gC, 0, none⟩), .pointer (some ⟨gT, i * 9, none⟩), .int .i64 i] w (TurnedG w B base gC gT T Bf bs lb Z ls (goR Z.ask Z.tell s i)) := by
  obtain ⟨⟨r, sS, sK, ct, Ps, qs, hC, hT, hE, hS, hK, ht, hsep⟩, hkeep, hlen, hfew, hlow, hcap⟩ := h
  obtain ⟨n, so, l, e1, e2, e3, e4, e5⟩ := ht i hi
  rcases e5 with ⟨hx, _⟩ | ⟨k', f', g1, g2, g3, g4, hb, hon⟩
  · rw [hk] at hx
    have := Option.some.inj hx
    omega
  · obtain rfl : k' = k := by rw [hk] at g1; have := Option.some.inj g1; omega
    obtain rfl : f' = f := by rw [hf] at g3; exact (Option.some.inj g3).symm
    have hOn := hon
    obtain ⟨F, cs, lc, f0, fs, c1, c2, c3, c4, c5, c6, c7, c8, c9, c10⟩ := hon
    have hx : s.calls[k']? = some s.calls[k'] := List.getElem?_eq_getElem g2
    have q4 := flatK_get s.calls k' _ 4 _ hx rfl
    have q5 := flatK_get s.calls k' _ 5 _ hx rfl
    have q6 := flatK_get s.calls k' _ 6 _ hx rfl
    have hp0 : Z.plan f0 fs = .ask (Z.ask f') := by
      show Z.nx (Z.after f0 fs) = _
      rw [← c8]; exact Mac.nx_ask g4
    have hnx : Z.plan f0 (fs ++ [((acc s.m (Z.ask f')).2.1, (acc s.m (Z.ask f')).2.2)]) = Z.nx (Z.tell f' (acc s.m (Z.ask f')).2.1 (acc s.m (Z.ask f')).2.2) := by
      show Z.nx (Z.after f0 _) = _
      rw [Mac.after_snoc, ← c8]
    have hfl : fs.length < 100000 := by omega
    have hB : B ≤ base ∧ base ≤ gC ∧ base ≤ gT ∧ base ≤ Ps i := ⟨hlow.1, hlow.2.2.1, hlow.2.2.2, c10⟩
    by_cases hpc : (Z.tell f' (acc s.m (Z.ask f')).2.1 (acc s.m (Z.ask f')).2.2).pc = 0
    · refine (stepg_fin w Bf bs gC gT (i * 9) i (Ps i) F base s.steps.length s.calls.length k' cs lc (Z.plan f0) (qs i) fs _ _ ct (Z.ask f') r s.m ⟨some ⟨gT, 0, none⟩, T, T⟩ sS sK (flatT s.steps) (flatK s.calls) _ _ _
        hC hT hb.2.1 hb.2.2.1 hb.2.2.2.1 hb.2.2.2.2.1 hb.2.2.2.2.2.1 hb.2.2.2.2.2.2.1 hb.2.2.2.2.2.2.2.1 hb.2.2.2.2.2.2.2.2 hE hfew hok hS hK (by omega) (by omega) g2 q4 q5 q6 c1 c2 c5 c6 c4 c3 hfl c7 hp0 (hnx.trans (Mac.nx_fin hpc)) hlow.2.1).mono ?_
      rintro e w' ⟨r3, s1, rfl, C, Tt, K, S, E, O⟩
      have hF := frg_step hC hT c5 hS hK c6 hB O
      have hBl := hF.below (Nat.le_trans hlow.1 hlow.2.1)
      have hs1 := S.n_.1
      refine ⟨rfl, ?_, hF⟩
      rw [goR_yes g3 g1 hx hpc]
      refine ⟨⟨r3, s1, sK, ended ct (i * 9), Ps, qs, C, Tt, E, ?_, ?_, fun j hj => ?_, fun a b ha hb' hab ona onb => ?_⟩, ⟨hkeep.1, SafeL.spared hkeep.2.2 hkeep.2.1 O (spared_step hC hT c5 hS hK c6), hkeep.2.2⟩, ⟨?_, ?_, hlen.2.2⟩, fun ar => ?_, ⟨hlow.1, Nat.le_trans hlow.2.1 O.size, hlow.2.2⟩, hcap⟩
      · show Row w' base _ 8 s1 (s.steps ++ [_]).length (flatT (s.steps ++ [_]))
        rw [List.length_append, flatT_snoc]
        exact S
      · show Row w' base _ 7 sK (s.calls.set k' _).length (flatK (s.calls.set k' _))
        rw [List.length_set, ← flatK_end s.calls k' _ (s.steps.length) _ hx]
        have e1 : ((s1.n : Int) - 1) = (s.steps.length : Int) := by omega
        rw [e1] at K
        exact K
      · by_cases hji : j = i
        · subst hji
          exact ⟨n, so, l, e1, e2, e3, e4.below hBl, .inl ⟨List.getElem?_set_self (by omega), hb.ended⟩⟩
        · obtain ⟨n2, so2, l2, d1, d2, d3, d4, d5⟩ := ht j hj
          refine ⟨n2, so2, l2, d1, d2, d3, d4.below hBl, ?_⟩
          rcases d5 with ⟨p1, p2⟩ | ⟨k2, f2, p1, p2, p3, p4, p5, p6⟩
          · exact .inl ⟨(List.getElem?_set_ne (Ne.symm hji)).trans p1, p2.other (fun m h1 h2 => ended_ne (by omega))⟩
          · refine .inr ⟨k2, f2, (List.getElem?_set_ne (Ne.symm hji)).trans p1, by show k2 < (s.calls.set k' _).length; rw [List.length_set]; exact p2, (List.getElem?_set_ne (Ne.symm hji)).trans p3, p4, p5.other (fun m h1 h2 => ended_ne (by omega)), ?_⟩
            refine on_step p6 hC hT c5 hS hK c6 (hsep j i hj hi hji ⟨_, p1⟩ ⟨_, hk⟩) O ?_
            show _ ≤ (s.steps ++ [_]).length
            rw [List.length_append]; omega
      · have hna : ∀ a, (∃ kk : Nat, (s.call.set i (-1))[a]? = some (kk : Int)) → a ≠ i := fun a ho e => by
          obtain ⟨kk, hkk⟩ := ho
          subst e
          rw [List.getElem?_set_self (by omega)] at hkk
          have := Option.some.inj hkk
          omega
        exact hsep a b ha hb' hab (onB_set (s := s) (Ne.symm (hna a ona)) ona) (onB_set (s := s) (Ne.symm (hna b onb)) onb)
      · show (s.on.set i _).length = T
        rw [List.length_set]; exact hlen.1
      · show (s.call.set i _).length = T
        rw [List.length_set]; exact hlen.2.1
      · rw [len_acc]; exact hfew ar
    · refine (stepg_ask w Bf bs gC gT (i * 9) i (Ps i) F base s.steps.length s.calls.length k' cs lc (Z.plan f0) (qs i) fs _ ct (Z.ask f') r s.m ⟨some ⟨gT, 0, none⟩, T, T⟩ sS sK (flatT s.steps) (flatK s.calls) _ _ _
        hC hT hb.2.1 hb.2.2.1 hb.2.2.2.1 hb.2.2.2.2.1 hb.2.2.2.2.2.1 hb.2.2.2.2.2.2.1 hb.2.2.2.2.2.2.2.1 hb.2.2.2.2.2.2.2.2 hE hfew hok hS hK (by omega) (by omega) g2 q4 q5 q6 c1 c2 c5 c6 c4 c3 hfl c7 hp0 (hnx.trans (Mac.nx_ask hpc)) hlow.2.1).mono ?_
      rintro e w' ⟨r3, s1, q1, rfl, C, Tt, K, S, E, P9, F9, L9, W9, O⟩
      have hF := frg_step hC hT c5 hS hK c6 hB O
      have hBl := hF.below (Nat.le_trans hlow.1 hlow.2.1)
      have hs1 := S.n_.1
      refine ⟨rfl, ?_, hF⟩
      rw [goR_no g3 hpc]
      refine ⟨⟨r3, s1, sK, askedc ct (i * 9) _, Ps, fun j => if j = i then q1 else qs j, C, Tt, E, ?_, K, fun j hj => ?_, fun a b ha hb' hab ona onb => ?_⟩, ⟨hkeep.1, SafeL.spared hkeep.2.2 hkeep.2.1 O (spared_step hC hT c5 hS hK c6), hkeep.2.2⟩, ⟨?_, hlen.2.1, hlen.2.2⟩, fun ar => ?_, ⟨hlow.1, Nat.le_trans hlow.2.1 O.size, hlow.2.2⟩, hcap⟩
      · show Row w' base _ 8 s1 (s.steps ++ [_]).length (flatT (s.steps ++ [_]))
        rw [List.length_append, flatT_snoc]
        exact S
      · by_cases hji : j = i
        · subst hji
          refine ⟨n, so, l, e1, e2, e3, e4.below hBl, .inr ⟨k', _, hk, g2, List.getElem?_set_self (by omega), hpc, hb.asked _, ?_⟩⟩
          simp only [if_true]
          refine ⟨F, cs, lc, f0, _, c1, c2, c3, L9, P9, F9, c7.snoc hp0 _ (acc_was s.m hE.2.1 _), ?_, ?_, c10⟩
          · rw [Mac.after_snoc, ← c8]
          · show _ ≤ (s.steps ++ [_]).length
            rw [List.length_append, List.length_append]
            simp only [List.length_cons, List.length_nil]
            omega
        · obtain ⟨n2, so2, l2, d1, d2, d3, d4, d5⟩ := ht j hj
          refine ⟨n2, so2, l2, d1, d2, d3, d4.below hBl, ?_⟩
          rcases d5 with ⟨p1, p2⟩ | ⟨k2, f2, p1, p2, p3, p4, p5, p6⟩
          · exact .inl ⟨p1, p2.other (fun m h1 h2 => askedc_ne (by omega))⟩
          · refine .inr ⟨k2, f2, p1, p2, (List.getElem?_set_ne (Ne.symm hji)).trans p3, p4, p5.other (fun m h1 h2 => askedc_ne (by omega)), ?_⟩
            simp only [hji, if_false]
            refine on_step p6 hC hT c5 hS hK c6 (hsep j i hj hi hji ⟨_, p1⟩ ⟨_, hk⟩) O ?_
            show _ ≤ (s.steps ++ [_]).length
            rw [List.length_append]; omega
      · have hold : ∀ j g, j < T → onB s j → j ≠ i → bl (qs j) g → g < w.heap.size := fun j g hj ⟨kk, hkk⟩ hji hg => by
          obtain ⟨n2, so2, l2, d1, d2, d3, d4, d5⟩ := ht j hj
          rcases d5 with ⟨p1, p2⟩ | ⟨k2, f2, p1, p2, p3, p4, p5, p6⟩
          · rw [hkk] at p1
            have := Option.some.inj p1
            omega
          · obtain ⟨_, ⟨m, xs, hr⟩, _⟩ := p6.prow
            exact (hr.lt hg).2
        have hs := hsep a b ha hb' hab ona onb
        refine ⟨hs.1, fun g hg hg2 => ?_⟩
        by_cases hai : a = i
        · have hbi : b ≠ i := fun e => hab (hai.trans e.symm)
          simp only [hai, if_true] at hg
          simp only [hbi, if_false] at hg2
          rcases W9 g hg with h1 | h1
          · exact (hsep b i hb' hi hbi onb ⟨_, hk⟩).2 g hg2 h1
          · have := hold b g hb' onb hbi hg2
            omega
        · simp only [hai, if_false] at hg
          by_cases hbi : b = i
          · simp only [hbi, if_true] at hg2
            rcases W9 g hg2 with h1 | h1
            · exact (hsep a i ha hi hai ona ⟨_, hk⟩).2 g hg h1
            · have := hold a g ha ona hai hg
              omega
          · simp only [hbi, if_false] at hg2
            exact hs.2 g hg hg2
      · show (s.on.set i _).length = T
        rw [List.length_set]; exact hlen.1
      · rw [len_acc]; exact hfew ar
end Go.Proofs.Ytffppdcpiieapaa.Drivec

namespace Go.Proofs.Ytffppdcpiieapaa.Drivec
open Go.RowKit Go.Proofs.Ytffppdcpiieapaa.Memc Go.Proofs.Ytffppdcpiieapaa.Procc Go.Proofs.Ytffppdcpiieapaa.Storec Go.Proofs.Ytffppdcpiieapaa.Refc Go.Proofs.Ytffppdcpiieapaa.Machc
set_option linter.unusedVariables false
set_option maxRecDepth 100000

set_option maxHeartbeats 1000000 in
theorem startg_inv (w : World) (B base gC gT T Bf : Nat) (bs : Array Value) (lb : List Cap1) (Z : Mac) (ls : List (List (Int × Int))) (s : RS) (h : InvG w B base gC gT T Bf bs lb Z ls s) (ok : Int → Int → Int → Int → Prop) (i n : Nat) (kd vl d : Int) (l : List (Int × Int)) (hi : i < T)
    (hl : ls[i]? = some l) (hat : s.at_[i]? = some (n : Int)) (hx : l[n]? = some (kd, vl)) (hc : s.call[i]? = some (-1)) (hB : Begins Bf lb ok (fun i kd vl d => Z.plan (Z.bg i kd vl d))) (hok : ok i kd vl d) (hpc : ¬ (Z.bg i kd vl d).pc = 0) (hn : s.steps.length < 90000 ∧ s.calls.length < 90000) :
    Calls Try.prog 87 #[.pointer (some ⟨gC, 0, none⟩), .pointer (some ⟨gT, i * 9, none⟩), .agg #[.int .i64 i, .int .u32 d]] w (TurnedG w B base gC gT T Bf bs lb Z ls (begR s i (Z.bg i kd vl d) kd vl)) := by
  obtain ⟨⟨r, sS, sK, ct, Ps, qs, hC, hT, hE, hS, hK, ht, hsep⟩, hkeep, hlen, hfew, hlow, hcap⟩ := h
  obtain ⟨n', so, l', e1, e2, e3, e4, e5⟩ := ht i hi
  obtain rfl : l' = l := by rw [hl] at e1; exact (Option.some.inj e1).symm
  obtain rfl : n' = n := by rw [hat] at e2; have := Option.some.inj e2; omega
  rcases e5 with ⟨_, hid⟩ | ⟨k', f', g1, _⟩
  · have hnl : n' < l'.length := (List.getElem?_eq_some_iff.1 hx).1
    have hdr : l'.drop n' = (kd, vl) :: l'.drop (n' + 1) := by
      rw [List.drop_eq_getElem_cons hnl]
      rw [List.getElem?_eq_getElem hnl] at hx
      rw [Option.some.inj hx]
    rw [hdr] at e4
    have e40 := e4
    obtain ⟨sA, sn, sc⟩ := so
    obtain ⟨r1, r2, r3, r4⟩ := e4
    simp only [List.length_cons] at r1 r2 r3 r4
    obtain ⟨b, off, hA, hb, hcell⟩ := r4 (by omega)
    subst hA
    obtain ⟨f0, f1⟩ := hcell 0 (kd, vl) rfl
    simp only [Nat.zero_mul, Nat.add_zero] at f0 f1
    obtain ⟨d0, d1, ⟨cl, d2⟩, d3, d4, d5, d6, d7, d8⟩ := id hid
    have hSn := hS.n_.1
    have hKn := hK.n_.1
    refine (startg_c w Bf bs lb ok (fun i kd vl d => Z.plan (Z.bg i kd vl d)) gC gT i (i * 9) b off sn sc ct kd vl d cl (Z.ask (Z.bg i kd vl d)) r ⟨some ⟨gT, 0, none⟩, T, T⟩ sS sK s.steps.length s.calls.length base (flatK s.calls)
      hC hT d0 d1 d2 d3 d4 d5 d6 d7 d8 (by omega) r2 r3 (Nat.lt_of_lt_of_le hb (Nat.le_trans hlow.1 hlow.2.1)) f0 f1 hSn hK (by omega) (by omega) hlow.2.1 hkeep.1 hB hkeep.2.1 hkeep.2.2 hok (Mac.nx_ask hpc)).mono ?_
    rintro e w' ⟨P, F, cs, lc, s1, rfl, q1, q2, q3, q4, q5, C, Tt, K, O, hPn⟩
    have hF := frg_start hC hT hK ⟨hlow.1, hlow.2.2.1, hlow.2.2.2⟩ O
    have hBl := hF.below (Nat.le_trans hlow.1 hlow.2.1)
    have hsp := spared_start hC hT hK
    have hnon : ∀ a, onB s a → a ≠ i := fun a ⟨kk, hkk⟩ e => by
      subst e
      rw [hc] at hkk
      have := Option.some.inj hkk
      omega
    have hother : ∀ a, a < T → onB s a → ∃ q m, On w base Z (Ps a) (qs a) q m := fun a ha ⟨kk, hkk⟩ => by
      obtain ⟨n2, so2, l2, p1, p2, p3, p4, p5⟩ := ht a ha
      rcases p5 with ⟨g1, _⟩ | ⟨k2, f2, g1, g2, g3, g4, g5, g6⟩
      · rw [hkk] at g1
        have := Option.some.inj g1
        omega
      · exact ⟨_, _, g6⟩
    have hPs : ∀ a, a < T → onB s a → Ps a < w.heap.size := fun a ha ho => by
      obtain ⟨q, m, hon⟩ := hother a ha ho
      obtain ⟨⟨cp, hp⟩, _, _⟩ := hon.prow
      exact hp.lt
    refine ⟨rfl, ?_, hF⟩
    have hatD : s.at_.getD i 0 = (n' : Int) := by rw [List.getD_eq_getElem?_getD, hat]; rfl
    refine ⟨⟨r, sS, s1, begun ct (i * 9) b off sn sc sK.n P (Z.ask (Z.bg i kd vl d)), fun j => if j = i then P else Ps j, fun j => if j = i then ⟨none, 0, 0⟩ else qs j, C, Tt, ?_, ?_, ?_, fun j hj => ?_, fun a b ha hb' hab ona onb => ?_⟩, ⟨hkeep.1, SafeL.spared hkeep.2.2 hkeep.2.1 O hsp, hkeep.2.2⟩, ⟨?_, ?_, ?_⟩, hfew, ⟨hlow.1, Nat.le_trans hlow.2.1 O.size, hlow.2.2⟩, hcap⟩
    · refine hE.only O (fun ar hl ad had => ?_)
      rintro (hg | hg | hg)
      · exact hE.ne hT (by decide) (by decide) ar hl ad had hg
      · exact hE.ne hC (by decide) (by decide) ar hl ad had hg
      · obtain ⟨ds, hd⟩ := hK.blk hg
        exact hE.ne hd (by decide) (by decide) ar hl ad had rfl
    · refine hS.only O (fun g hg => ?_)
      rintro (hg2 | hg2 | hg2)
      · exact hS.ne hT (by decide) g hg hg2
      · exact hS.ne hC (by decide) g hg hg2
      · exact hS.ne_row hK (by decide) g hg g hg2 rfl
    · show Row w' base _ 7 s1 (s.calls ++ [_]).length (flatK (s.calls ++ [_]))
      rw [List.length_append, flatK_snoc]
      rw [hSn] at K
      exact K
    · by_cases hji : j = i
      · subst hji
        refine ⟨n' + 1, ⟨tailO b off sc, sn - 1, sc - 1⟩, l', e1, ?_, hnl, (RdO.tail e40).below hBl, .inr ⟨s.calls.length, _, List.getElem?_set_self (by omega), ?_, List.getElem?_set_self (by omega), hpc, ?_, ?_⟩⟩
        · show (s.at_.set j (s.at_.getD j 0 + 1))[j]? = _
          rw [List.getElem?_set_self (by omega), hatD]; rfl
        · show _ < (s.calls ++ [_]).length
          simp
        · simp only [if_true]
          rw [← hKn]
          exact Idle.begun hid _ _ _
        · simp only [if_true]
          exact ⟨F, cs, lc, _, [], q1, q2, q3, q4, q5, row_nil _ _ _ _, going_nil _, rfl, Nat.zero_le _, Nat.le_trans hlow.2.1 hPn⟩
      · obtain ⟨n2, so2, l2, p1, p2, p3, p4, p5⟩ := ht j hj
        refine ⟨n2, so2, l2, p1, (List.getElem?_set_ne (Ne.symm hji)).trans p2, p3, p4.below hBl, ?_⟩
        rcases p5 with ⟨g1, g2⟩ | ⟨k2, f2, g1, g2, g3, g4, g5, g6⟩
        · exact .inl ⟨(List.getElem?_set_ne (Ne.symm hji)).trans g1, g2.other (fun m h1 h2 => begun_ne (by omega))⟩
        · refine .inr ⟨k2, f2, (List.getElem?_set_ne (Ne.symm hji)).trans g1, ?_, (List.getElem?_set_ne (Ne.symm hji)).trans g3, g4, ?_, ?_⟩
          · show _ < (s.calls ++ [_]).length
            rw [List.length_append]; omega
          · simp only [hji, if_false]
            exact g5.other (fun m h1 h2 => begun_ne (by omega))
          · simp only [hji, if_false]
            exact on_start g6 hC hT hK O (Nat.le_refl _)
    · have hba : ∀ a, a ≠ i → onB (begR s i (Z.bg i kd vl d) kd vl) a → onB s a := fun a hai ho => onB_set (s := s) (Ne.symm hai) ho
      by_cases hai : a = i
      · have hbi : b ≠ i := fun e => hab (hai.trans e.symm)
        simp only [hai, hbi, if_true, if_false]
        refine ⟨fun e => ?_, fun g hg => ?_⟩
        · have := hPs b hb' (hba b hbi onb)
          omega
        · obtain ⟨_, e, _⟩ := hg
          cases e
      · by_cases hbi : b = i
        · simp only [hai, hbi, if_true, if_false]
          refine ⟨fun e => ?_, fun g hg hg2 => ?_⟩
          · have := hPs a ha (hba a hai ona)
            omega
          · obtain ⟨_, e, _⟩ := hg2
            cases e
        · simp only [hai, hbi, if_false]
          exact hsep a b ha hb' hab (hba a hai ona) (hba b hbi onb)
    · show (s.on.set i _).length = T
      rw [List.length_set]; exact hlen.1
    · show (s.call.set i _).length = T
      rw [List.length_set]; exact hlen.2.1
    · show (s.at_.set i _).length = T
      rw [List.length_set]; exact hlen.2.2
  · rw [hc] at g1
    have := Option.some.inj g1
    omega

set_option maxHeartbeats 2000000 in
theorem turng_off (w : World) (B base gC gT T Bf : Nat) (bs : Array Value) (lb : List Cap1) (Z : Mac) (ls : List (List (Int × Int))) (s : RS) (h : InvG w B base gC gT T Bf bs lb Z ls s) (t d : Int) (ht : t < 0 ∨ (T : Int) ≤ t) :
    Calls Try.prog 57 #[.pointer (some ⟨gC, 0, none⟩), .agg #[.int .i64 t, .int .u32 d]] w (TurnedG w B base gC gT T Bf bs lb Z ls s) := by
  obtain ⟨⟨r, sS, sK, ct, Ps, qs, hC, hrest⟩, hrest2, _, _, _, hT⟩ := id h
  have HI := Lib.hid h
  have hc := hC.cell
  have hzC := hC.lt
  clear h hrest hrest2 hC
  rcases ht with ht | ht
  · go_enter Try.func57, Try.ntmps57
    go_wp2
    go_quiet (fail)
    go_wp2
    first | go_end0 | refine bodyPost_ret (results_none rfl _ _ _) rfl ?_
    exact ⟨rfl, HI.out.later (below_box _ _ _), FrG.of_below (below_box _ _ _)⟩
  · have h0 : decide (t < 0) = false := by simp; omega
    go_enter Try.func57, Try.ntmps57
    go_wp2
    go_quiet (fail)
    go_wp2
    first | go_end0 | refine bodyPost_ret (results_none rfl _ _ _) rfl ?_
    exact ⟨rfl, HI.out.later (below_box _ _ _), FrG.of_below (below_box _ _ _)⟩

set_option maxHeartbeats 4000000 in
theorem turng_none (w : World) (B base gC gT T Bf : Nat) (bs : Array Value) (lb : List Cap1) (Z : Mac) (ls : List (List (Int × Int))) (s : RS) (h : InvG w B base gC gT T Bf bs lb Z ls s) (i n : Nat) (d : Int) (l : List (Int × Int)) (hi : i < T)
    (hl : ls[i]? = some l) (hat : s.at_[i]? = some (n : Int)) (hx : l.length ≤ n) (hcl : s.call[i]? = some (-1)) :
    Calls Try.prog 57 #[.pointer (some ⟨gC, 0, none⟩), .agg #[.int .i64 i, .int .u32 d]] w (TurnedG w B base gC gT T Bf bs lb Z ls s) := by
  obtain ⟨⟨r, sS, sK, ct, Ps, qs, hC, hTT, hE, hS, hK, ht, hsep⟩, hkeep, hlen, hfew, hlow, hT⟩ := id h
  have HI := Lib.hid h
  have hc := hC.cell
  have hzC := hC.lt
  have hzT := hTT.lt
  obtain ⟨n', so, l', e1, e2, e3, e4, e5⟩ := ht i hi
  obtain rfl : l' = l := by rw [hl] at e1; exact (Option.some.inj e1).symm
  obtain rfl : n' = n := by rw [hat] at e2; have := Option.some.inj e2; omega
  rcases e5 with ⟨_, hid⟩ | ⟨k', f', g1, _⟩
  · have hso : so.n = 0 := by have := e4.1; rw [List.drop_eq_nil_of_le hx] at this; exact this
    have c0 := (hTT.cell (i * 9)).trans hid.1
    have c1 := (hTT.cell (i * 9 + 1)).trans hid.2.1
    rw [hso] at c0
    have h0 : decide ((i : Int) < 0) = false := by simp
    have h1 : decide ((T : Int) ≤ i) = false := by simp; omega
    have i0 : (0 : Int) ≤ i := by omega
    have i1 : (i : Int) < T := by omega
    have i2 : (T : Int) ≤ 8 := by omega
    clear h hkeep hlen hfew hlow hC hTT hE hS hK ht hsep hid hl hi hT hso e1 e2 e3 e4 hat hx hcl
    go_enter Try.func57, Try.ntmps57
    go_wp2
    go_quiet (fail)
    go_wp2
    go_quiet (fail)
    go_wp2
    first | go_end0 | refine bodyPost_ret (results_none rfl _ _ _) rfl ?_
    exact ⟨rfl, HI.out.later (below_box _ _ _), FrG.of_below (below_box _ _ _)⟩
  · rw [hcl] at g1
    have := Option.some.inj g1
    omega

set_option maxHeartbeats 4000000 in
theorem turng_on (w : World) (B base gC gT T Bf : Nat) (bs : Array Value) (lb : List Cap1) (Z : Mac) (ls : List (List (Int × Int))) (s : RS) (h : InvG w B base gC gT T Bf bs lb Z ls s) (i k : Nat) (d : Int) (f : FS) (hi : i < T)
    (hcl : s.call[i]? = some (k : Int)) (hf : s.on[i]? = some f) (hok : (Z.ask f).ok) (hn : s.steps.length < 90000 ∧ s.calls.length < 90000) :
    Calls Try.prog 57 #[.pointer (some ⟨gC, 0, none⟩), .agg #[.int .i64 i, .int .u32 d]] w (TurnedG w B base gC gT T Bf bs lb Z ls (goR Z.ask Z.tell s i)) := by
  obtain ⟨⟨r, sS, sK, ct, Ps, qs, hC, hTT, hE, hS, hK, ht, hsep⟩, hkeep, hlen, hfew, hlow, hT⟩ := id h
  have HI := Lib.hid h
  have hc := hC.cell
  have hzC := hC.lt
  have hzT := hTT.lt
  obtain ⟨n', so, l', e1, e2, e3, e4, e5⟩ := ht i hi
  rcases e5 with ⟨g1, _⟩ | ⟨k', f', g1, g2, g3, g4, hb, hon⟩
  · rw [hcl] at g1
    have := Option.some.inj g1
    omega
  · have c1 := (hTT.cell (i * 9 + 1)).trans hb.2.1
    have c8 := (hTT.cell (i * 9 + 8)).trans hb.2.2.2.2.2.2.2.2
    have h0 : decide ((i : Int) < 0) = false := by simp
    have h1 : decide ((T : Int) ≤ i) = false := by simp; omega
    have i0 : (0 : Int) ≤ i := by omega
    have i1 : (i : Int) < T := by omega
    have i2 : (T : Int) ≤ 8 := by omega
    have HS1 := Lib.hid (And.intro hi (And.intro hcl (And.intro hf (And.intro hok hn))))
    clear h hkeep hlen hfew hlow hC hTT hE hS hK ht hsep hi hT e1 e2 e3 e4 hcl hf hok hn g1 g2 g3 g4 hb hon
    go_enter Try.func57, Try.ntmps57
    go_wp2_with fail
    go_quiet (fail)
    obtain ⟨n1, rfl⟩ : ∃ n, n = nq := ⟨_, rfl⟩
    go_wp2_with fail
    go_quiet (fail)
    obtain ⟨n2, rfl⟩ : ∃ n, n = nq := ⟨_, rfl⟩
    go_wp2_with fail
    have IV := HI.out.later (below_box w (.cells #[.int .i64 i, .int .u32 d] 65) (n1 + n2))
    have FV : FrG B w ((w.alloc (.cells #[.int .i64 i, .int .u32 d] 65)).drewN (n1 + n2)) := FrG.of_below (below_box _ _ _)
    clear hc hzC hzT c1 c8 h0 h1 HI
    generalize (w.alloc (.cells #[.int .i64 i, .int .u32 d] 65)).drewN (n1 + n2) = V at IV FV ⊢
    refine (stepg_inv V B base gC gT T Bf bs lb Z ls s IV i k f HS1.out.1 HS1.out.2.1 HS1.out.2.2.1 HS1.out.2.2.2.1 HS1.out.2.2.2.2).mono ?_
    rintro e w2 ⟨rfl, hI2, hF2⟩
    go_wp2
    go_end0
    exact ⟨rfl, hI2, FV.trans hF2⟩

set_option maxHeartbeats 4000000 in
theorem turng_begin (w : World) (B base gC gT T Bf : Nat) (bs : Array Value) (lb : List Cap1) (Z : Mac) (ls : List (List (Int × Int))) (s : RS) (h : InvG w B base gC gT T Bf bs lb Z ls s) (ok : Int → Int → Int → Int → Prop) (i n : Nat) (kd vl d : Int) (l : List (Int × Int)) (hi : i < T)
    (hl : ls[i]? = some l) (hat : s.at_[i]? = some (n : Int)) (hx : l[n]? = some (kd, vl)) (hcl : s.call[i]? = some (-1)) (hB : Begins Bf lb ok (fun i kd vl d => Z.plan (Z.bg i kd vl d))) (hok : ok i kd vl d) (hpc : ¬ (Z.bg i kd vl d).pc = 0) (hak : (Z.ask (Z.bg i kd vl d)).ok) (hn : s.steps.length < 80000 ∧ s.calls.length < 80000) :
    Calls Try.prog 57 #[.pointer (some ⟨gC, 0, none⟩), .agg #[.int .i64 i, .int .u32 d]] w (TurnedG w B base gC gT T Bf bs lb Z ls (goR Z.ask Z.tell (begR s i (Z.bg i kd vl d) kd vl) i)) := by
  obtain ⟨⟨r, sS, sK, ct, Ps, qs, hC, hTT, hE, hS, hK, ht, hsep⟩, hkeep, hlen, hfew, hlow, hT⟩ := id h
  have HI := Lib.hid h
  have hc := hC.cell
  have hzC := hC.lt
  have hzT := hTT.lt
  obtain ⟨n', so, l', e1, e2, e3, e4, e5⟩ := ht i hi
  obtain rfl : l' = l := by rw [hl] at e1; exact (Option.some.inj e1).symm
  obtain rfl : n' = n := by rw [hat] at e2; have := Option.some.inj e2; omega
  rcases e5 with ⟨_, hid⟩ | ⟨k', f', g1, _⟩
  · have hnl : n' < l'.length := (List.getElem?_eq_some_iff.1 hx).1
    obtain ⟨m, hm⟩ : ∃ m, so.n = m + 1 := ⟨so.n - 1, by have := e4.1; rw [List.length_drop] at this; omega⟩
    have c0 := (hTT.cell (i * 9)).trans hid.1
    have c1 := (hTT.cell (i * 9 + 1)).trans hid.2.1
    rw [hm] at c0
    have h0 : decide ((i : Int) < 0) = false := by simp
    have h1 : decide ((T : Int) ≤ i) = false := by simp; omega
    have h2 : ((m : Int) + 1 == 0) = false := by simp; omega
    have i0 : (0 : Int) ≤ i := by omega
    have i1 : (i : Int) < T := by omega
    have i2 : (T : Int) ≤ 8 := by omega
    have i3 : 0 ≤ (m : Int) := by omega
    have HS1 := Lib.hid (And.intro hi (And.intro hl (And.intro hat (And.intro hx (And.intro hcl (And.intro hB (And.intro hok (And.intro hpc (And.intro hak (And.intro hn (And.intro hlen.1 hlen.2.1)))))))))))
    clear h hkeep hlen hfew hlow hC hTT hE hS hK ht hsep hi hT e1 e2 e3 e4 hcl hl hat hx hB hok hpc hak hn hid hnl hm
    go_enter Try.func57, Try.ntmps57
    go_wp2_with fail
    go_quiet (fail)
    obtain ⟨n1, rfl⟩ : ∃ n, n = nq := ⟨_, rfl⟩
    go_wp2_with fail
    go_quiet (fail)
    obtain ⟨n2, rfl⟩ : ∃ n, n = nq := ⟨_, rfl⟩
    go_wp2_with fail
    have IV := HI.out.later (below_box w (.cells #[.int .i64 i, .int .u32 d] 65) (n1 + n2))
    have FV : FrG B w ((w.alloc (.cells #[.int .i64 i, .int .u32 d] 65)).drewN (n1 + n2)) := FrG.of_below (below_box _ _ _)
    have PX : Blk ((w.alloc (.cells #[.int .i64 i, .int .u32 d] 65)).drewN (n1 + n2)) w.heap.size 65 #[.int .i64 i, .int .u32 d] := (Blk.new _ _ _).drewN _
    clear hc hzC hzT c0 c1 h0 h1 h2 HI
    generalize (w.alloc (.cells #[.int .i64 i, .int .u32 d] 65)).drewN (n1 + n2) = V at IV FV PX ⊢
    obtain ⟨z1, z2, z3, z4, z5, z6, z7, z8, z9, z10, z11, z12⟩ := HS1.out
    refine (startg_inv V B base gC gT T Bf bs lb Z ls s IV ok i n' kd vl d l' z1 z2 z3 z4 z5 z6 z7 z8 ⟨by omega, by omega⟩).mono ?_
    rintro e w2 ⟨rfl, hI2, hF2⟩
    have P2 := hF2.blk PX (by decide)
    have hp2 := P2.cell
    have hcl2 : (begR s i (Z.bg i kd vl d) kd vl).call[i]? = some ((s.calls.length : Nat) : Int) := List.getElem?_set_self (by omega)
    have hon2 : (begR s i (Z.bg i kd vl d) kd vl).on[i]? = some (Z.bg i kd vl d) := List.getElem?_set_self (by omega)
    obtain ⟨⟨r2, sS2, sK2, ct2, Ps2, qs2, hC2, hTT2, hE2, hS2, hK2, ht2, hsep2⟩, hrest2⟩ := id hI2
    obtain ⟨n3, so3, l3, x1, x2, x3, x4, x5⟩ := ht2 i z1
    rcases x5 with ⟨y1, _⟩ | ⟨k3, f3, y1, y2, y3, y4, hb3, hon3⟩
    · rw [hcl2] at y1
      have := Option.some.inj y1
      omega
    · have c8 := (hTT2.cell (i * 9 + 8)).trans hb3.2.2.2.2.2.2.2.2
      have HI2 := Lib.hid hI2
      have HF2 := Lib.hid hF2
      have HFV := Lib.hid FV
      have HL2 := Lib.hid (And.intro hcl2 hon2)
      clear hC2 hTT2 hE2 hS2 hK2 ht2 hsep2 hrest2 x1 x2 x3 x4 y1 y2 y3 y4 hb3 hon3 hI2 hF2 P2 PX FV IV hcl2 hon2 z1 z2 z3 z4 z5 z6 z7 z8 z9 z10 z11 z12
      go_wp2_with fail
      refine (stepg_inv w2 B base gC gT T Bf bs lb Z ls _ HI2.out i s.calls.length (Z.bg i kd vl d) HS1.out.1 HL2.out.1 HL2.out.2 HS1.out.2.2.2.2.2.2.2.2.1 ⟨(by show s.steps.length < 90000; have := HS1.out.2.2.2.2.2.2.2.2.2.1; omega), (by show (s.calls ++ [_]).length < 90000; rw [List.length_append]; have := HS1.out.2.2.2.2.2.2.2.2.2.1; simp only [List.length_cons, List.length_nil]; omega)⟩).mono ?_
      rintro e w3 ⟨rfl, hI3, hF3⟩
      clear c8 hp2
      go_wp2
      go_end0
      exact ⟨rfl, hI3, (HFV.out.trans HF2.out).trans hF3⟩
  · rw [hcl] at g1
    have := Option.some.inj g1
    omega
end Go.Proofs.Ytffppdcpiieapaa.Drivec

namespace Go.Proofs.Ytffppdcpiieapaa.Drivec
open Go.RowKit Go.Proofs.Ytffppdcpiieapaa.Memc Go.Proofs.Ytffppdcpiieapaa.Procc Go.Proofs.Ytffppdcpiieapaa.Storec Go.Proofs.Ytffppdcpiieapaa.Refc Go.Proofs.Ytffppdcpiieapaa.Machc
set_option linter.unusedVariables false
set_option maxRecDepth 100000

/-- machines that ask for what may be asked for, as long as they are told words -/
structure MacOk (Z : Mac) (ok : Int → Int → Int → Int → Prop) (G : FS → Prop) : Prop where
  bg : ∀ i kd vl d, ok i kd vl d → G (Z.bg i kd vl d) ∧ ¬ (Z.bg i kd vl d).pc = 0
  ask : ∀ f, G f → ¬ f.pc = 0 → (Z.ask f).ok
  tell : ∀ f was dn, G f → ¬ f.pc = 0 → 0 ≤ was → was ≤ 18446744073709551615 → G (Z.tell f was dn)
/-- a run whose calls are in states that may be -/
structure OkR (G : FS → Prop) (T : Nat) (s : RS) : Prop where
  m : s.m.ok
  len : s.on.length = T ∧ s.call.length = T ∧ s.at_.length = T
  on : ∀ i f, onB s i → s.on[i]? = some f → G f ∧ ¬ f.pc = 0
  call : ∀ i, i < T → s.call[i]? = some (-1) ∨ onB s i
theorem OkR.beg {G : FS → Prop} {T : Nat} {s : RS} (h : OkR G T s) {i : Nat} {f : FS} (hi : i < T) (hg : G f ∧ ¬ f.pc = 0) (kd vl : Int) : OkR G T (begR s i f kd vl) where
  m := h.m
  len := ⟨(List.length_set ..).trans h.len.1, (List.length_set ..).trans h.len.2.1, (List.length_set ..).trans h.len.2.2⟩
  on := fun j g hj hg2 => by
    by_cases hij : i = j
    · subst hij
      have e : (begR s i f kd vl).on[i]? = some f := List.getElem?_set_self (by have := h.len.1; omega)
      rw [e] at hg2
      rw [← Option.some.inj hg2]
      exact hg
    · have e : (begR s i f kd vl).on[j]? = s.on[j]? := List.getElem?_set_ne hij
      rw [e] at hg2
      exact h.on j g (onB_set (s := s) hij hj) hg2
  call := fun j hj => by
    by_cases hij : i = j
    · subst hij
      exact .inr ⟨_, List.getElem?_set_self (by have := h.len.2.1; omega)⟩
    · have e : (begR s i f kd vl).call[j]? = s.call[j]? := List.getElem?_set_ne hij
      rcases h.call j hj with h1 | ⟨k, h1⟩
      · exact .inl (e.trans h1)
      · exact .inr ⟨k, e.trans h1⟩
theorem goR_eq (ask : FS → Acc) (tell : FS → Int → Bool → FS) (s : RS) (i : Nat) (f : FS) (hf : s.on[i]? = some f) :
    (goR ask tell s i).m = (acc s.m (ask f)).1 ∧ (goR ask tell s i).on = s.on.set i (tell f (acc s.m (ask f)).2.1 (acc s.m (ask f)).2.2) ∧
    (goR ask tell s i).call = (if (tell f (acc s.m (ask f)).2.1 (acc s.m (ask f)).2.2).pc = 0 then s.call.set i (-1) else s.call) ∧ (goR ask tell s i).at_ = s.at_ ∧ (goR ask tell s i).steps.length = s.steps.length + 1 ∧ (goR ask tell s i).calls.length = s.calls.length := by
  have e1 : s.on.getD i FS.none = f := by rw [List.getD_eq_getElem?_getD, hf]; rfl
  unfold goR
  simp only [e1]
  refine ⟨trivial, trivial, trivial, trivial, by simp, ?_⟩
  split
  · rw [List.length_set]
  · rfl
theorem OkR.go {G : FS → Prop} {T : Nat} {s : RS} {Z : Mac} {ok : Int → Int → Int → Int → Prop} (h : OkR G T s) (hZ : MacOk Z ok G) {i : Nat} {f : FS} (hi : i < T) (ho : onB s i) (hf : s.on[i]? = some f) : OkR G T (goR Z.ask Z.tell s i) := by
  obtain ⟨e1, e2, e3, e4, _, _⟩ := goR_eq Z.ask Z.tell s i f hf
  have hg := h.on i f ho hf
  have hw := acc_was s.m h.m (Z.ask f)
  have hg2 := hZ.tell f _ (acc s.m (Z.ask f)).2.2 hg.1 hg.2 hw.1 hw.2
  refine ⟨by rw [e1]; exact acc_ok h.m (hZ.ask f hg.1 hg.2), ⟨by rw [e2, List.length_set]; exact h.len.1, ?_, by rw [e4]; exact h.len.2.2⟩, fun j g hj hg3 => ?_, fun j hj => ?_⟩
  · rw [e3]
    split
    · rw [List.length_set]; exact h.len.2.1
    · exact h.len.2.1
  · obtain ⟨k, hk⟩ := hj
    rw [e2] at hg3
    rw [e3] at hk
    by_cases hij : i = j
    · subst hij
      rw [List.getElem?_set_self (by have := h.len.1; omega)] at hg3
      have eg := Option.some.inj hg3
      subst eg
      refine ⟨hg2, fun hp => ?_⟩
      rw [if_pos hp, List.getElem?_set_self (by have := h.len.2.1; omega)] at hk
      have := Option.some.inj hk
      omega
    · rw [List.getElem?_set_ne hij] at hg3
      refine h.on j g ?_ hg3
      split at hk
      · rw [List.getElem?_set_ne hij] at hk; exact ⟨k, hk⟩
      · exact ⟨k, hk⟩
  · rw [onB, e3]
    by_cases hp : (Z.tell f (acc s.m (Z.ask f)).2.1 (acc s.m (Z.ask f)).2.2).pc = 0
    · simp only [hp, if_true]
      by_cases hij : i = j
      · subst hij
        exact .inl (List.getElem?_set_self (by have := h.len.2.1; omega))
      · rw [List.getElem?_set_ne hij]
        exact h.call j hj
    · simp only [hp, if_false]
      exact h.call j hj
/-- a turn -/
def turnM (Z : Mac) (ls : List (List (Int × Int))) (s : RS) (t d : Int) : RS :=
  if t < 0 ∨ (ls.length : Int) ≤ t then s
  else if s.call.getD t.toNat (-1) < 0 then
    match (ls.getD t.toNat [])[(s.at_.getD t.toNat 0).toNat]? with
    | none => s
    | some o => goR Z.ask Z.tell (begR s t.toNat (Z.bg t o.1 o.2 d) o.1 o.2) t.toNat
  else goR Z.ask Z.tell s t.toNat
/-- a run -/
def runM (Z : Mac) (ls : List (List (Int × Int))) (s : RS) (ps : List (Int × Int)) : RS := ps.foldl (fun s p => turnM Z ls s p.1 p.2) s
theorem runM_snoc (Z : Mac) (ls : List (List (Int × Int))) (s : RS) (ps : List (Int × Int)) (p : Int × Int) : runM Z ls s (ps ++ [p]) = turnM Z ls (runM Z ls s ps) p.1 p.2 := by unfold runM; rw [List.foldl_append]; rfl
theorem runM_take {Z : Mac} {ls : List (List (Int × Int))} {s : RS} {ps : List (Int × Int)} {j : Nat} {p : Int × Int} (h : ps[j]? = some p) : runM Z ls s (ps.take (j + 1)) = turnM Z ls (runM Z ls s (ps.take j)) p.1 p.2 := by
  rw [List.take_add_one, h]; exact runM_snoc _ _ _ _ _
theorem turnM_off {Z : Mac} {ls : List (List (Int × Int))} {s : RS} {t : Int} (d : Int) (h : t < 0 ∨ (ls.length : Int) ≤ t) : turnM Z ls s t d = s := by unfold turnM; rw [if_pos h]
theorem turnM_none {Z : Mac} {ls : List (List (Int × Int))} {s : RS} {i n : Nat} {l : List (Int × Int)} (d : Int) (hl : ls[i]? = some l) (hc : s.call[i]? = some (-1)) (ha : s.at_[i]? = some (n : Int)) (hn : l.length ≤ n) : turnM Z ls s i d = s := by
  have hi := (List.getElem?_eq_some_iff.1 hl).1
  unfold turnM
  rw [if_neg (by omega), Int.toNat_natCast, if_pos (by rw [List.getD_eq_getElem?_getD, hc]; decide)]
  have e : (ls.getD i [])[(s.at_.getD i 0).toNat]? = none := by
    rw [List.getD_eq_getElem?_getD, List.getD_eq_getElem?_getD, hl, ha]
    exact List.getElem?_eq_none (by simpa using hn)
  rw [e]
theorem turnM_beg {Z : Mac} {ls : List (List (Int × Int))} {s : RS} {i n : Nat} {l : List (Int × Int)} {o : Int × Int} (d : Int) (hl : ls[i]? = some l) (hc : s.call[i]? = some (-1)) (ha : s.at_[i]? = some (n : Int)) (ho : l[n]? = some o) :
    turnM Z ls s i d = goR Z.ask Z.tell (begR s i (Z.bg i o.1 o.2 d) o.1 o.2) i := by
  have hi := (List.getElem?_eq_some_iff.1 hl).1
  unfold turnM
  rw [if_neg (by omega), Int.toNat_natCast, if_pos (by rw [List.getD_eq_getElem?_getD, hc]; decide)]
  have e : (ls.getD i [])[(s.at_.getD i 0).toNat]? = some o := by
    rw [List.getD_eq_getElem?_getD, List.getD_eq_getElem?_getD, hl, ha]
    exact ho
  rw [e]
theorem turnM_on {Z : Mac} {ls : List (List (Int × Int))} {s : RS} {i k : Nat} (d : Int) (hi : i < ls.length) (hc : s.call[i]? = some (k : Int)) : turnM Z ls s i d = goR Z.ask Z.tell s i := by
  unfold turnM
  have e : ¬ s.call.getD i (-1) < 0 := by rw [List.getD_eq_getElem?_getD, hc]; show ¬ (k : Int) < 0; omega
  rw [if_neg (by omega), Int.toNat_natCast, if_neg e]
/-- each op of the threads may be begun, whatever is drawn -/
def OkOps (ok : Int → Int → Int → Int → Prop) (ls : List (List (Int × Int))) (d : Int) : Prop := ∀ (i : Nat) (l : List (Int × Int)) (n : Nat) (o : Int × Int), ls[i]? = some l → l[n]? = some o → ok i o.1 o.2 d
/-- how many calls a thread began -/
def AtR (ls : List (List (Int × Int))) (s : RS) : Prop := ∀ (i : Nat) (l : List (Int × Int)), ls[i]? = some l → ∃ n : Nat, s.at_[i]? = some (n : Int) ∧ n ≤ l.length
theorem turnM_ok {Z : Mac} {ok : Int → Int → Int → Int → Prop} {G : FS → Prop} {T : Nat} {ls : List (List (Int × Int))} {s : RS} (hZ : MacOk Z ok G) (hT : ls.length = T) (h : OkR G T s) (ha : AtR ls s) (t d : Int) (hops : OkOps ok ls d) :
    OkR G T (turnM Z ls s t d) ∧ AtR ls (turnM Z ls s t d) ∧ (turnM Z ls s t d).steps.length ≤ s.steps.length + 1 ∧ (turnM Z ls s t d).calls.length ≤ s.calls.length + 1 := by
  by_cases ht : t < 0 ∨ (ls.length : Int) ≤ t
  · rw [turnM_off d ht]
    exact ⟨h, ha, by omega, by omega⟩
  · obtain ⟨i, rfl⟩ : ∃ i : Nat, t = i := ⟨t.toNat, by omega⟩
    have hi : i < ls.length := by omega
    have hiT : i < T := by omega
    obtain ⟨l, hl⟩ : ∃ l, ls[i]? = some l := ⟨_, List.getElem?_eq_getElem hi⟩
    obtain ⟨n, hn, hnl⟩ := ha i l hl
    obtain ⟨f, hf⟩ : ∃ f, s.on[i]? = some f := ⟨_, List.getElem?_eq_getElem (by have := h.len.1; omega)⟩
    rcases h.call i hiT with hc | ⟨k, hk⟩
    · by_cases hlt : n < l.length
      · obtain ⟨o, ho⟩ : ∃ o, l[n]? = some o := ⟨_, List.getElem?_eq_getElem hlt⟩
        rw [turnM_beg d hl hc hn ho]
        have hb := hZ.bg i o.1 o.2 d (hops i l n o hl ho)
        have h2 := h.beg hiT hb o.1 o.2
        have hf2 : (begR s i (Z.bg i o.1 o.2 d) o.1 o.2).on[i]? = some (Z.bg i o.1 o.2 d) := List.getElem?_set_self (by have := h.len.1; omega)
        have ho2 : onB (begR s i (Z.bg i o.1 o.2 d) o.1 o.2) i := ⟨_, List.getElem?_set_self (by have := h.len.2.1; omega)⟩
        obtain ⟨e1, e2, e3, e4, e5, e6⟩ := goR_eq Z.ask Z.tell _ i _ hf2
        refine ⟨h2.go hZ hiT ho2 hf2, fun j l2 hl2 => ?_, by rw [e5]; exact Nat.le_refl _, ?_⟩
        · rw [e4]
          obtain ⟨n2, g1, g2⟩ := ha j l2 hl2
          show ∃ n : Nat, (s.at_.set i (s.at_.getD i 0 + 1))[j]? = some (n : Int) ∧ _
          by_cases hij : i = j
          · subst hij
            rw [hl] at hl2
            have el := Option.some.inj hl2
            subst el
            refine ⟨n + 1, ?_, hlt⟩
            rw [List.getElem?_set_self (by have := h.len.2.2; omega), List.getD_eq_getElem?_getD, hn]; rfl
          · rw [List.getElem?_set_ne hij]
            exact ⟨n2, g1, g2⟩
        · rw [e6]
          show (s.calls ++ [_]).length ≤ _
          rw [List.length_append]
          exact Nat.le_refl _
      · rw [turnM_none d hl hc hn (by omega)]
        exact ⟨h, ha, by omega, by omega⟩
    · rw [turnM_on d hi hk]
      obtain ⟨e1, e2, e3, e4, e5, e6⟩ := goR_eq Z.ask Z.tell s i f hf
      exact ⟨h.go hZ hiT ⟨k, hk⟩ hf, fun j l2 hl2 => by rw [e4]; exact ha j l2 hl2, by rw [e5]; exact Nat.le_refl _, by rw [e6]; omega⟩
theorem turng_c (w : World) (B base gC gT T Bf : Nat) (bs : Array Value) (lb : List Cap1) (Z : Mac) (ls : List (List (Int × Int))) (s : RS) (h : InvG w B base gC gT T Bf bs lb Z ls s) (ok : Int → Int → Int → Int → Prop) (G : FS → Prop) (hZ : MacOk Z ok G) (hB : Begins Bf lb ok (fun i kd vl d => Z.plan (Z.bg i kd vl d))) (hT : ls.length = T) (ho : OkR G T s) (ha : AtR ls s) (t d : Int) (hops : OkOps ok ls d) (hn : s.steps.length < 80000 ∧ s.calls.length < 80000) :
    Calls Try.prog 57 #[.pointer (some ⟨gC, 0, none⟩), .agg #[.int .i64 t, .int .u32 d]] w (TurnedG w B base gC gT T Bf bs lb Z ls (turnM Z ls s t d)) := by
  by_cases ht : t < 0 ∨ (ls.length : Int) ≤ t
  · rw [turnM_off d ht]
    exact turng_off w B base gC gT T Bf bs lb Z ls s h t d (by rw [← hT]; exact ht)
  · obtain ⟨i, rfl⟩ : ∃ i : Nat, t = i := ⟨t.toNat, by omega⟩
    have hi : i < ls.length := by omega
    have hiT : i < T := by omega
    obtain ⟨l, hl⟩ : ∃ l, ls[i]? = some l := ⟨_, List.getElem?_eq_getElem hi⟩
    obtain ⟨n, hn1, hnl⟩ := ha i l hl
    obtain ⟨f, hf⟩ : ∃ f, s.on[i]? = some f := ⟨_, List.getElem?_eq_getElem (by have := ho.len.1; omega)⟩
    rcases ho.call i hiT with hc | ⟨k, hk⟩
    · by_cases hlt : n < l.length
      · obtain ⟨⟨kd, vl⟩, hx⟩ : ∃ o, l[n]? = some o := ⟨_, List.getElem?_eq_getElem hlt⟩
        rw [turnM_beg d hl hc hn1 hx]
        have hok := hops i l n _ hl hx
        have hb := hZ.bg i kd vl d hok
        exact turng_begin w B base gC gT T Bf bs lb Z ls s h ok i n kd vl d l hiT hl hn1 hx hc hB hok hb.2 (hZ.ask _ hb.1 hb.2) hn
      · rw [turnM_none d hl hc hn1 (by omega)]
        exact turng_none w B base gC gT T Bf bs lb Z ls s h i n d l hiT hl hn1 (by omega) hc
    · rw [turnM_on d hi hk]
      have hg := ho.on i f ⟨k, hk⟩ hf
      exact turng_on w B base gC gT T Bf bs lb Z ls s h i k d f hiT hk hf (hZ.ask f hg.1 hg.2) ⟨by omega, by omega⟩

/-! ### the end -/
theorem method_stop (p : Addr) (w : World) : (method 299 123 (.pointer (some p)) "Stop").run Try.prog w = .ok (145, .pointer (some p)) w := by kernel_rfl
theorem stopm_c (w : World) (P : Nat) (run : Fn) (c1 c2 : Array Value) (q : Sl) (ask ov : Bool) (cd ou : Int) (hq : Blk w P 126 #[(.func run c1 c2), (.slice q.A q.n q.c), .bool ask, .bool ov, .int .i64 cd, .int .u32 ou]) :
    Calls Try.prog 145 #[.pointer (some ⟨P, 0, none⟩)] w fun e w' => e = .returned (.tuple #[]) ∧ Only (fun g => g = P) w w' := by
  go_enter Try.func145, Try.ntmps145
  go_wp2_with (go_at_call 147; refine (end_c _ P undef undef ask ov cd ou _ _ _ _ _ _ hq).mono ?_; rintro e w1 ⟨rfl, _, ho⟩)
  first | go_end0 | refine bodyPost_ret (results_none rfl _ _ _) rfl ?_
  exact ⟨rfl, ho⟩
set_option maxHeartbeats 4000000 in
theorem stopg_c (w : World) (B base gC gT T Bf : Nat) (bs : Array Value) (lb : List Cap1) (Z : Mac) (ls : List (List (Int × Int))) (s : RS) (u : FrameMode) (h : InvG w B base gC gT T Bf bs lb Z ls s) :
    CallsD Try.prog 56 #[.pointer (some ⟨gC, 0, none⟩)] u w fun e u' w' => u' = u ∧ (e = .returned (.tuple #[]) ∧ Only (fun g => base ≤ g ∧ ∃ cs, Blk w g 126 cs) w w') := by
  obtain ⟨⟨r, sS, sK, ct, Ps, qs, hC, hTT, hE, hS, hK, ht, hsep⟩, hkeep, hlen, hfew, hlow, hT⟩ := id h
  have hc := hC.cell
  have hzC := hC.lt
  have t8 : (T : Int) ≤ 8 := by omega
  have hta : ∀ w : World, (Instr.typeAssert Value.nilIface 72 138 true).run Try.prog w = .ok (.tuple #[.nilIface, .bool false]) w := fun _ => by kernel_rfl
  have htb : ∀ (p : Addr) (w : World), (Instr.typeAssert (.iface 123 (.pointer (some p))) 72 138 true).run Try.prog w = .ok (.tuple #[.iface 123 (.pointer (some p)), .bool true]) w := fun _ _ => by kernel_rfl
  have HT := Lib.hid hTT
  have HTH := Lib.hid ht
  have HSEP := Lib.hid hsep
  have HLOW := Lib.hid hlow
  clear h hkeep hlen hfew hlow hC hTT hE hS hK ht hsep
  go_enter_d Try.func56, Try.ntmps56
  go_wp2_with fail
  clear hc
  go_loopw [11] (fun i wr => ∃ j : Nat, i = .int .i64 j ∧ j ≤ T ∧ Only (fun g => ∃ a, a < j ∧ onB s a ∧ a < T ∧ g = Ps a) w wr) (fun i _ => T - (intOf i).toNat)
  case atStart => exact ⟨0, rfl, Nat.zero_le _, Only.refl _ _⟩
  case round =>
    obtain ⟨j, rfl, hj, ho⟩ := hrel
    by_cases hlt : j < T
    · obtain ⟨n', so, l', e1, e2, e3, e4, e5⟩ := HTH.out j hlt
      have hnT : ∀ g, (∃ a, a < j ∧ onB s a ∧ a < T ∧ g = Ps a) → ∃ cs, Blk w g 126 cs := by
        rintro g ⟨a, haj, ⟨ka, hka⟩, haT, rfl⟩
        obtain ⟨_, _, _, _, _, _, _, p5⟩ := HTH.out a haT
        rcases p5 with ⟨g1, _⟩ | ⟨k2, f2, g1, g2, g3, g4, g5, g6⟩
        · rw [hka] at g1
          have := Option.some.inj g1
          omega
        · exact g6.prow.1
      have T1 : Blk wr gT 104 ct := HT.out.only ho (fun hg => by
        obtain ⟨cs, hb⟩ := hnT _ hg
        exact Blk.ne HT.out hb (by decide) rfl)
      have HO := Lib.hid ho
      have hzT := T1.lt
      have i0 : (0 : Int) ≤ j := by omega
      have i1 : (j : Int) < T := by omega
      rcases e5 with ⟨g1, hid⟩ | ⟨k', f', g1, g2, g3, g4, hb, hon⟩
      · obtain ⟨d0, d1, ⟨cl, d2⟩, d3, d4, d5, d6, d7, d8⟩ := hid
        have q0 := (T1.cell (j * 9)).trans d0
        have q1 := (T1.cell (j * 9 + 1)).trans d1
        have q2 := (T1.cell (j * 9 + 2)).trans d2
        have q3 := (T1.cell (j * 9 + 3)).trans d3
        have q4 := (T1.cell (j * 9 + 4)).trans d4
        have q5 := (T1.cell (j * 9 + 5)).trans d5
        have q6 := (T1.cell (j * 9 + 6)).trans d6
        have q7 := (T1.cell (j * 9 + 7)).trans d7
        have q8 := (T1.cell (j * 9 + 8)).trans d8
        clear T1 e1 e2 e3 e4 g1 d0 d1 d2 d3 d4 d5 d6 d7 d8 ho hnT
        go_wp2
        go_roundw
        case rel => exact ⟨j + 1, by go_num, by omega, (HO.out.mono (fun g ⟨a, h1, h2⟩ => ⟨a, by omega, h2⟩)).alloc _⟩
        case measure => simp [intOf]; omega
      · obtain ⟨F, cs, lc, f0, fs, c1, c2, c3, c4, c5, c6, c7, c8, c9, c10⟩ := hon
        have PB : Blk wr (Ps j) 126 #[.func (.func F) #[] cs, .slice (qs j).A (qs j).n (qs j).c, .bool true, .bool false, .int .i64 0, .int .u32 0] := c5.only ho (by
          rintro ⟨a, haj, hoa, haT, e⟩
          exact (HSEP.out j a hlt haT (by omega) ⟨k', g1⟩ hoa).1 e)
        obtain ⟨d0, d1, d2, d3, d4, d5, d6, d7, d8⟩ := hb
        have q0 := (T1.cell (j * 9)).trans d0
        have q1 := (T1.cell (j * 9 + 1)).trans d1
        have q2 := (T1.cell (j * 9 + 2)).trans d2
        have q3 := (T1.cell (j * 9 + 3)).trans d3
        have q4 := (T1.cell (j * 9 + 4)).trans d4
        have q5 := (T1.cell (j * 9 + 5)).trans d5
        have q6 := (T1.cell (j * 9 + 6)).trans d6
        have q7 := (T1.cell (j * 9 + 7)).trans d7
        have q8 := (T1.cell (j * 9 + 8)).trans d8
        have hm := method_stop ⟨Ps j, 0, none⟩
        have HPB := Lib.hid PB
        have HON : Hid (onB s j) := Lib.hid ⟨k', g1⟩
        clear T1 e1 e2 e3 e4 g1 g2 g3 g4 d0 d1 d2 d3 d4 d5 d6 d7 d8 ho hnT c1 c2 c3 c4 c5 c6 c7 c8 c9 c10 PB
        go_wp2_with (go_at_call 145; go_must (refine (stopm_c _ (Ps j) _ _ _ (qs j) true false 0 0 (HPB.out.alloc _)).mono ?_); rintro e w7 ⟨rfl, ho7⟩; go_must (have O7 := Lib.hid (((HO.out.mono (Q := fun g => ∃ a, a < j + 1 ∧ onB s a ∧ a < T ∧ g = Ps a) (fun g ⟨a, h1, h2⟩ => ⟨a, by omega, h2⟩)).alloc _).next ho7 (fun g _ hg => ⟨j, by omega, HON.out, hlt, hg⟩))); clear ho7)
        go_roundw
        case rel => exact ⟨j + 1, by go_num, by omega, O7.out⟩
        case measure => simp [intOf]; omega
    · have HO := Lib.hid ho
      clear ho
      obtain rfl : j = T := by omega
      go_wp2
      go_end0
      refine ⟨rfl, HO.out.mono ?_⟩
      rintro g ⟨a, haj, ⟨ka, hka⟩, haT, rfl⟩
      obtain ⟨_, _, _, _, _, _, _, p5⟩ := HTH.out a haT
      rcases p5 with ⟨g1, _⟩ | ⟨k2, f2, g1, g2, g3, g4, g5, g6⟩
      · rw [hka] at g1
        have := Option.some.inj g1
        omega
      · exact ⟨g6.prow.2.2, g6.prow.1⟩
end Go.Proofs.Ytffppdcpiieapaa.Drivec

namespace Go.Proofs.Ytffppdcpiieapaa.Arenac
open Go.RowKit Go.Proofs.Ytffppdcpiieapaa.Memc Go.Proofs.Ytffppdcpiieapaa.Procc Go.Proofs.Ytffppdcpiieapaa.Machc Go.Proofs.Ytffppdcpiieapaa.Drivec Go.Proofs.Ytffppdcpiieapaa.Wordc
set_option linter.unusedVariables false
set_option maxRecDepth 100000

theorem taking_c (w : World) : Calls Try.prog 37 #[] w fun e w' => e = .returned (.iface 123 (.pointer (some ⟨w.heap.size, 0, none⟩))) ∧ w' = w.alloc (.cells #[.func (.func 64) #[] #[], .slice none 0 0, .bool false, .bool false, .int .i64 0, .int .u32 0] 126) := by
  go_enter Try.func37, Try.ntmps37
  go_wp2_with (go_at_call 44; (with_reducible refine (proc_g _ 64 #[]).mono ?_); rintro e w1 ⟨rfl, rfl⟩)
  go_ret
  exact ⟨rfl, rfl⟩
theorem giving_c (w : World) (rf : Int) : Calls Try.prog 38 #[.int .u64 rf] w fun e w' => e = .returned (.iface 123 (.pointer (some ⟨(w.heap.size + 1), 0, none⟩))) ∧ w' = (w.alloc (.cells #[.int .u64 rf] 30)).alloc (.cells #[.func (.func 68) #[] #[.pointer (some ⟨w.heap.size, 0, none⟩)], .slice none 0 0, .bool false, .bool false, .int .i64 0, .int .u32 0] 126) := by
  have hmf : ∀ (fn : Fn) (first cap : Array Value) (w : World), (Instr.makeFunc fn first cap).run Try.prog w = .ok (.func fn first cap) w := fun _ _ _ _ => rfl
  go_enter Try.func38, Try.ntmps38
  go_wp2_with (go_at_call 44; (with_reducible refine (proc_g _ 68 #[.pointer (some ⟨w.heap.size, 0, none⟩)]).mono ?_); rintro e w1 ⟨rfl, rfl⟩)
  go_ret
  exact ⟨by simp, rfl⟩
theorem blk_at2 (w : World) (g t : Nat) (a : Array Value) (h : g = w.heap.size) : Blk (w.alloc (.cells a t)) g t a := by
  rw [h]
  exact Blk.new _ _ _
theorem bg4 (k : Int) (K T M : Nat) (i vl d : Int) : (docZ k K T M).bg i 4 vl d = { FS.none with kd := 4, vl := vl, t := i, d := d % K, pc := 90 } := by
  show docBg k K M i 4 vl d = _
  simp only [docBg, Int.reduceEq, if_false, if_true]
theorem bg5 (k : Int) (K T M : Nat) (i vl d : Int) : (docZ k K T M).bg i 5 vl d = { FS.none with kd := 5, vl := vl, t := i, d := d % K, give := vl % M + 1, back := 0, pc := 95 } := by
  show docBg k K M i 5 vl d = _
  simp only [docBg, Int.reduceEq, if_false, if_true, FS.gives]
def okA (i kd vl d : Int) : Prop := (kd = 4 ∨ kd = 5) ∧ 0 ≤ vl ∧ vl ≤ 4294967295
set_option maxHeartbeats 1000000 in
theorem run1_begins (gc : Nat) (k : Int) (K T M : Nat) (m1 : 2 ≤ M) (m2 : M ≤ 64) : Begins 36 [⟨gc, 23, #[.int .i64 k, .int .i64 K, .int .i64 T, .int .i64 M]⟩] okA (fun i kd vl d => (docZ k K T M).plan ((docZ k K T M).bg i kd vl d)) := by
  refine ⟨enters_rb, ?_⟩
  rintro w i kd vl d ⟨hkd, v0, v1⟩ hk
  have hC : Blk w gc 23 #[.int .i64 k, .int .i64 K, .int .i64 T, .int .i64 M] := hk ⟨gc, 23, #[.int .i64 k, .int .i64 K, .int .i64 T, .int .i64 M]⟩ (List.mem_singleton.2 rfl)
  have hc := hC.cell
  have hcl := hC.lt
  clear hC hk
  show Calls Try.prog 36 #[.int .i64 i, .agg #[.int .i64 kd, .int .u32 vl], .int .u32 d, .pointer (some ⟨gc, 0, none⟩)] w _
  rcases hkd with rfl | rfl
  · go_enter Try.func36, Try.ntmps36
    go_wp2_with (go_at_call 37; (with_reducible refine (taking_c _).mono ?_); rintro e w1 ⟨rfl, rfl⟩)
    go_ret
    refine ⟨_, 64, [], rfl, blk_at2 _ _ _ _ (by simp), (fun x hx => by cases hx), (fun x hx => by cases hx), taking_meets k K T M _ (by rw [bg4]; exact ⟨rfl, rfl, rfl, rfl⟩), by simp, ((Below.refl _ _).alloc (Nat.le_refl _) _).alloc (by simp) _⟩
  · have e1 : ((5 : Int) == 4) = false := rfl
    have w1 : (M : Int) % 4294967296 = M := by omega
    have h2 : ¬ (M : Int) = 0 := by omega
    have m3 : 0 ≤ vl % (M : Int) := Int.emod_nonneg _ h2
    have m4 : vl % (M : Int) < M := Int.emod_lt_of_pos _ (by omega)
    go_enter Try.func36, Try.ntmps36
    go_wp2_with (first
      | (go_at_call 39; refine (ref_c _ _ _ (by omega) (by omega) (by omega) (by omega)).mono ?_; rintro e w' ⟨rfl, rfl⟩)
      | (go_at_call 38; (with_reducible refine (giving_c _ _).mono ?_); rintro e w1 ⟨rfl, rfl⟩))
    have w5 : (vl % (M : Int) + 1) % 4294967296 = vl % (M : Int) + 1 := by omega
    rw [w5]
    go_ret
    refine ⟨_, 68, [⟨w.heap.size + 1, 30, #[.int .u64 (vl % (M : Int) + 1)]⟩], rfl, blk_at2 _ _ _ _ (by simp), (fun x hx => ?_), (fun x hx => ?_), giving_meets k K T M _ _ _ ⟨by omega, by omega⟩ (by rw [bg5]; exact ⟨rfl, rfl, rfl, rfl, rfl⟩), (by omega), (((Below.refl _ _).alloc (Nat.le_refl _) _).alloc (by simp) _).alloc (by simp; omega) _⟩
    · rw [List.mem_singleton.1 hx]
      exact (blk_at2 _ _ _ _ (by simp)).alloc _
    · rw [List.mem_singleton.1 hx]
      simp
/-- the states of the arena's calls -/
structure GA (f : FS) : Prop where
  w : W64 f.w
  l : W64 f.l
  give : W64 f.give
  pc : (f.kd = 4 ∧ (f.pc = 90 ∨ f.pc = 91 ∨ f.pc = 92 ∨ f.pc = 0)) ∨ (f.kd = 5 ∧ (f.pc = 95 ∨ f.pc = 96 ∨ f.pc = 97 ∨ f.pc = 0))
  s : f.s = 0
  hold : W64 f.hold
  back : f.back = 0
  seen : f.seen = []
theorem ar_ok (k : Int) (K T M : Nat) (m1 : 2 ≤ M) (m2 : M ≤ 64) : MacOk (docZ k K T M) okA GA where
  bg := by
    rintro i kd vl d ⟨hkd, v0, v1⟩
    have h0 : W64 0 := ⟨Int.le_refl _, by decide⟩
    have m3 : 0 ≤ vl % (M : Int) := Int.emod_nonneg _ (by omega)
    have m4 : vl % (M : Int) < M := Int.emod_lt_of_pos _ (by omega)
    rcases hkd with rfl | rfl
    · rw [bg4]
      refine ⟨⟨h0, h0, h0, .inl ⟨rfl, .inl rfl⟩, rfl, h0, rfl, rfl⟩, ?_⟩
      show ¬ (90 : Int) = 0
      decide
    · rw [bg5]
      refine ⟨⟨h0, h0, ?_, .inr ⟨rfl, .inl rfl⟩, rfl, h0, rfl, rfl⟩, ?_⟩
      · show W64 (vl % M + 1)
        exact ⟨by omega, by omega⟩
      · show ¬ (95 : Int) = 0
        decide
  ask := by
    intro f hg hp
    have hw := hg.w
    have hl := hg.l
    have hv := hg.give
    unfold W64 at hw hl hv
    show (docAsk k K M f).ok
    rcases hg.pc with ⟨hk, h | h | h | h⟩ | ⟨hk, h | h | h | h⟩
    · rw [ask90 h]; unfold Acc.ok; simp only; omega
    · rw [ask91 h]; unfold Acc.ok hnd lo; simp only; omega
    · rw [ask92 h]; unfold Acc.ok pk up hi lo; simp only; omega
    · exact absurd h hp
    · rw [ask95 h]; unfold Acc.ok; simp only; omega
    · rw [ask96 h]; unfold Acc.ok hnd pk hi lo; simp only; omega
    · rw [ask97 h]; unfold Acc.ok pk up hi lo; simp only; omega
    · exact absurd h hp
  tell := by
    intro f was dn hg hp w0 w1
    have hx : W64 was := ⟨w0, w1⟩
    show GA (docTell k K T M f was dn)
    rcases hg.pc with ⟨hk, h | h | h | h⟩ | ⟨hk, h | h | h | h⟩
    · rw [tell90 was dn h]
      split
      · have e : f.ends k 4 = { f with code := 4, pc := 0 } := by
          unfold FS.ends
          rw [if_neg (fun h => h.2 hk), if_pos (.inr hk)]
        rw [e]
        exact ⟨hg.w, hg.l, hg.give, .inl ⟨hk, .inr (.inr (.inr rfl))⟩, hg.s, hg.hold, hg.back, hg.seen⟩
      · exact ⟨hx, hg.l, hg.give, .inl ⟨hk, .inr (.inl rfl)⟩, hg.s, hg.hold, hg.back, hg.seen⟩
    · rw [tell91 was dn h]
      exact ⟨hg.w, hx, hg.give, .inl ⟨hk, .inr (.inr (.inl rfl))⟩, hg.s, hg.hold, hg.back, hg.seen⟩
    · rw [tell92 was dn h, if_pos hk]
      split
      · refine ⟨hg.w, hg.l, hg.give, .inl ⟨hk, .inr (.inr (.inr rfl))⟩, hg.s, ?_, hg.back, hg.seen⟩
        show W64 (pk (hi f.l) (lo f.w))
        have hw := hg.w
        have hl := hg.l
        unfold W64 at *
        unfold pk hi lo
        omega
      · exact ⟨hg.w, hg.l, hg.give, .inl ⟨hk, .inl rfl⟩, hg.s, hg.hold, hg.back, hg.seen⟩
    · exact absurd h hp
    · rw [tell95 was dn h]
      exact ⟨hx, hg.l, hg.give, .inr ⟨hk, .inr (.inl rfl)⟩, hg.s, hg.hold, hg.back, hg.seen⟩
    · rw [tell96 was dn h]
      exact ⟨hg.w, hg.l, hg.give, .inr ⟨hk, .inr (.inr (.inl rfl))⟩, hg.s, hg.hold, hg.back, hg.seen⟩
    · rw [tell97 was dn h, if_neg (show ¬ f.back = 87 by rw [hg.back]; decide)]
      split
      · exact ⟨hg.w, hg.l, hg.give, .inr ⟨hk, .inr (.inr (.inr hg.back))⟩, hg.s, hg.hold, hg.back, hg.seen⟩
      · exact ⟨hg.w, hg.l, hg.give, .inr ⟨hk, .inl rfl⟩, hg.s, hg.hold, hg.back, hg.seen⟩
    · exact absurd h hp
end Go.Proofs.Ytffppdcpiieapaa.Arenac
