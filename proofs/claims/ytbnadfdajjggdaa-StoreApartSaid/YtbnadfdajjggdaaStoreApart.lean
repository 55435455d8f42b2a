/- For every words and every two accesses to unlike words, the program's Do comes to the same words in either order; a Read changes nothing; what was written is read (P2.2). No condition. -/
import Derived.Test.YtbnadfdajjggdaaApartA
import Derived.Test.YtbnadfdajjggdaaApartB
import Derived.Test.YtbnadfdajjggdaaApartC
import Derived.Test.YtbnadfdajjggdaaApartD
namespace Go.Proofs.Ytbnadfdajjggdaa.storeApart
open Go.ChangeShapes Go.WideShapes Go.ChangeAt Go.RowKit Go.Proofs.Ytbnadfdajjggdaa.Memc Go.Proofs.Ytbnadfdajjggdaa.Storec Go.Proofs.Ytbnadfdajjggdaa.Refc Go.Proofs.Ytbnadfdajjggdaa.Lawc
set_option linter.unusedVariables false

theorem own : ownKnob Try.prog.godebug = none := by kernel_rfl
theorem laidOut : laidOutB Try.prog = true := by kernel_rfl

/-! ### the mathematics of accesses -/
theorem acc_few {m : M} (h : Few m) (c : Acc) : Few (acc m c).1 := fun a h1 h2 => by rw [len_acc]; exact h a h1 h2
theorem there_acc (m : M) (c : Acc) (a i : Int) : there (acc m c).1 a i ↔ there m a i := by
  unfold there; rw [len_acc]
/-- a Read changes nothing -/
theorem acc_read (m : M) (a i : Int) : acc m ⟨1, a, i, 0, 0⟩ = (m, if there m a i then Memc.get m a i else 0, false) := by
  unfold acc
  by_cases h : there m a i
  · rw [if_pos ⟨h, by simp⟩, if_pos (.inl rfl), if_pos h]
  · rw [if_neg (fun hh => h hh.1), if_neg h]
theorem get_set (m : M) (a i v : Int) (h : there m a i) : Memc.get (Memc.set m a i v) a i = v := by
  unfold Memc.get
  rw [area_set_same, List.getD_eq_getElem?_getD, List.getElem?_set_self (by have := h.1; have := h.2; omega)]
  rfl
theorem get_other (m : M) (a i b j v : Int) (h : there m a i) (hj : there m b j) (hne : ¬ (a = b ∧ i = j)) : Memc.get (Memc.set m a i v) b j = Memc.get m b j := by
  unfold Memc.get
  by_cases hab : a = b
  · subst hab
    have hij : i.toNat ≠ j.toNat := by
      have := h.1; have := hj.1
      intro e
      exact hne ⟨rfl, by omega⟩
    rw [area_set_same, List.getD_eq_getElem?_getD, List.getElem?_set_ne hij, List.getD_eq_getElem?_getD]
  · rw [area_set_other _ _ _ _ _ hab]
theorem set_comm (m : M) (a i v b j u : Int) (h : there m a i) (hj : there m b j) (hne : ¬ (a = b ∧ i = j)) : Memc.set (Memc.set m a i v) b j u = Memc.set (Memc.set m b j u) a i v := by
  refine M.ext_area fun k => ?_
  by_cases hab : a = b
  · subst hab
    have hij : i.toNat ≠ j.toNat := by
      have := h.1; have := hj.1
      intro e
      exact hne ⟨rfl, by omega⟩
    by_cases hk : a = k
    · subst hk
      rw [area_set_same, area_set_same, area_set_same, area_set_same]
      exact List.set_comm _ _ hij
    · rw [area_set_other _ _ _ _ _ hk, area_set_other _ _ _ _ _ hk, area_set_other _ _ _ _ _ hk, area_set_other _ _ _ _ _ hk]
  · by_cases hk : a = k
    · subst hk
      rw [area_set_other _ _ _ _ _ (Ne.symm hab), area_set_same, area_set_same, area_set_other _ _ _ _ _ (Ne.symm hab)]
    · by_cases hk' : b = k
      · subst hk'
        rw [area_set_same, area_set_other _ _ _ _ _ hab, area_set_other _ _ _ _ _ hab, area_set_same]
      · rw [area_set_other _ _ _ _ _ hk', area_set_other _ _ _ _ _ hk, area_set_other _ _ _ _ _ hk, area_set_other _ _ _ _ _ hk']
/-- does an access put something? -/
def puts (m : M) (c : Acc) : Prop := (there m c.ar c.at_ ∧ 1 ≤ c.d ∧ c.d ≤ 3) ∧ ¬ (c.d = 1 ∨ (c.d = 3 ∧ Memc.get m c.ar c.at_ ≠ c.old))
theorem acc_puts {m : M} {c : Acc} (h : puts m c) : acc m c = (Memc.set m c.ar c.at_ c.new, Memc.get m c.ar c.at_, true) := by
  unfold acc; rw [if_pos h.1, if_neg h.2]
theorem acc_not {m : M} {c : Acc} (h : ¬ puts m c) : (acc m c).1 = m ∧ (acc m c).2.2 = false := by
  unfold acc
  by_cases h1 : there m c.ar c.at_ ∧ 1 ≤ c.d ∧ c.d ≤ 3
  · rw [if_pos h1]
    by_cases h2 : c.d = 1 ∨ (c.d = 3 ∧ Memc.get m c.ar c.at_ ≠ c.old)
    · rw [if_pos h2]; exact ⟨rfl, rfl⟩
    · exact absurd ⟨h1, h2⟩ h
  · rw [if_neg h1]; exact ⟨rfl, rfl⟩
theorem puts_acc (m : M) (a b : Acc) (hne : ¬ (a.ar = b.ar ∧ a.at_ = b.at_)) : puts (acc m a).1 b ↔ puts m b := by
  by_cases ha : puts m a
  · have e : (acc m a).1 = Memc.set m a.ar a.at_ a.new := by rw [acc_puts ha]
    have ht : there (acc m a).1 b.ar b.at_ ↔ there m b.ar b.at_ := there_acc m a _ _
    unfold puts
    rw [ht]
    by_cases hb : there m b.ar b.at_
    · rw [e, get_other m _ _ _ _ _ ha.1.1 hb hne]
    · exact ⟨fun h => absurd h.1.1 hb, fun h => absurd h.1.1 hb⟩
  · rw [(acc_not ha).1]
theorem acc_comm (m : M) (a b : Acc) (hne : ¬ (a.ar = b.ar ∧ a.at_ = b.at_)) : (acc (acc m a).1 b).1 = (acc (acc m b).1 a).1 := by
  have hne' : ¬ (b.ar = a.ar ∧ b.at_ = a.at_) := fun h => hne ⟨h.1.symm, h.2.symm⟩
  by_cases ha : puts m a
  · by_cases hb : puts m b
    · rw [acc_puts ((puts_acc m a b hne).2 hb), acc_puts ((puts_acc m b a hne').2 ha), acc_puts ha, acc_puts hb]
      exact set_comm m _ _ _ _ _ _ ha.1.1 hb.1.1 hne
    · rw [(acc_not (fun h => hb ((puts_acc m a b hne).1 h))).1, (acc_not hb).1]
  · rw [(acc_not (fun h => ha ((puts_acc m b a hne').1 h))).1, (acc_not ha).1]
theorem len_pos {m : M} {a i : Int} (h : there m a i) : 0 < (m.area a).length := by have := h.1; have := h.2; omega
/-- what was written is read; what wasn't, is what was there, or the way of access is none -/
theorem read_back (m : M) (a : Acc) (now : Int) (hn : (if there (acc m a).1 a.ar a.at_ then Memc.get (acc m a).1 a.ar a.at_ else 0) = now) :
    ((acc m a).2.2 = true ∧ now = a.new) ∨ ((acc m a).2.2 = false ∧ now = (acc m a).2.1) ∨ ((acc m a).2.2 = false ∧ now ≠ (acc m a).2.1 ∧ 0 < (m.area a.ar).length ∧ (a.d < 1 ∨ 3 < a.d)) := by
  by_cases hp : puts m a
  · have hn2 := hn
    rw [if_pos ((there_acc m a _ _).2 hp.1.1), acc_puts hp] at hn2
    refine .inl ⟨by rw [acc_puts hp], ?_⟩
    rw [← hn2]
    exact get_set m _ _ _ hp.1.1
  · obtain ⟨h1, h2⟩ := acc_not hp
    rw [h1] at hn
    by_cases ht : there m a.ar a.at_
    · rw [if_pos ht] at hn
      by_cases hd : 1 ≤ a.d ∧ a.d ≤ 3
      · refine .inr (.inl ⟨h2, ?_⟩)
        have h3 : a.d = 1 ∨ (a.d = 3 ∧ Memc.get m a.ar a.at_ ≠ a.old) := Decidable.byContradiction fun h => hp ⟨⟨ht, hd⟩, h⟩
        rw [← hn]
        unfold acc
        rw [if_pos ⟨ht, hd⟩, if_pos h3]
      · have hw : (acc m a).2.1 = 0 := by unfold acc; rw [if_neg (fun hh => hd hh.2)]
        by_cases he : now = (acc m a).2.1
        · exact .inr (.inl ⟨h2, he⟩)
        · exact .inr (.inr ⟨h2, he, len_pos ht, by omega⟩)
    · rw [if_neg ht] at hn
      refine .inr (.inl ⟨h2, ?_⟩)
      rw [← hn]
      unfold acc
      rw [if_neg (fun hh => ht hh.1)]

set_option maxHeartbeats 2000000 in
theorem walk_long (r : R) (m : M) (a b : Acc) (w : World) (hr : Rm w w.heap.size r m) (hf : ¬ Few m) :
    Calls Try.prog 5 #[.agg #[.int .u64 r.e, .int .u64 r.f, .slice r.L.A r.L.n r.L.c, .slice r.P.A r.P.n r.P.c, .int .u64 r.h, .int .u64 r.t, .slice r.K.A r.K.n r.K.c, .slice r.X.A r.X.n r.X.c, .slice r.S.A r.S.n r.S.c], .agg #[.int .i64 a.d, .int .i64 a.ar, .int .i64 a.at_, .int .u64 a.old, .int .u64 a.new], .agg #[.int .i64 b.d, .int .i64 b.ar, .int .i64 b.at_, .int .u64 b.old, .int .u64 b.new]] w fun e w' => e = .returned (.bool true) ∧ Below w.heap.size w w' := by
  have HF := Lib.hid hf
  have R0 := Lib.hid hr
  clear hf hr
  have W_0 : Hid (Below w.heap.size w (((w.alloc (.cells #[.int .u64 r.e, .int .u64 r.f, .slice r.L.A r.L.n r.L.c, .slice r.P.A r.P.n r.P.c, .int .u64 r.h, .int .u64 r.t, .slice r.K.A r.K.n r.K.c, .slice r.X.A r.X.n r.X.c, .slice r.S.A r.S.n r.S.c] 25)).alloc (.cells #[.int .i64 a.d, .int .i64 a.ar, .int .i64 a.at_, .int .u64 a.old, .int .u64 a.new] 27)).alloc (.cells #[.int .i64 b.d, .int .i64 b.ar, .int .i64 b.at_, .int .u64 b.old, .int .u64 b.new] 27))) := Lib.hid ((((Below.refl _ _).alloc (Nat.le_refl _) _).alloc (by simp) _).alloc (by simp; omega) _)
  have x0 : Blk (((w.alloc (.cells #[.int .u64 r.e, .int .u64 r.f, .slice r.L.A r.L.n r.L.c, .slice r.P.A r.P.n r.P.c, .int .u64 r.h, .int .u64 r.t, .slice r.K.A r.K.n r.K.c, .slice r.X.A r.X.n r.X.c, .slice r.S.A r.S.n r.S.c] 25)).alloc (.cells #[.int .i64 a.d, .int .i64 a.ar, .int .i64 a.at_, .int .u64 a.old, .int .u64 a.new] 27)).alloc (.cells #[.int .i64 b.d, .int .i64 b.ar, .int .i64 b.at_, .int .u64 b.old, .int .u64 b.new] 27)) w.heap.size 25 #[.int .u64 r.e, .int .u64 r.f, .slice r.L.A r.L.n r.L.c, .slice r.P.A r.P.n r.P.c, .int .u64 r.h, .int .u64 r.t, .slice r.K.A r.K.n r.K.c, .slice r.X.A r.X.n r.X.c, .slice r.S.A r.S.n r.S.c] := ((Blk.new _ _ _).alloc _).alloc _
  have y0 : Blk (((w.alloc (.cells #[.int .u64 r.e, .int .u64 r.f, .slice r.L.A r.L.n r.L.c, .slice r.P.A r.P.n r.P.c, .int .u64 r.h, .int .u64 r.t, .slice r.K.A r.K.n r.K.c, .slice r.X.A r.X.n r.X.c, .slice r.S.A r.S.n r.S.c] 25)).alloc (.cells #[.int .i64 a.d, .int .i64 a.ar, .int .i64 a.at_, .int .u64 a.old, .int .u64 a.new] 27)).alloc (.cells #[.int .i64 b.d, .int .i64 b.ar, .int .i64 b.at_, .int .u64 b.old, .int .u64 b.new] 27)) (w.heap.size + 1) 27 #[.int .i64 a.d, .int .i64 a.ar, .int .i64 a.at_, .int .u64 a.old, .int .u64 a.new] := (blk_at (by simp)).alloc _
  have z0 : Blk (((w.alloc (.cells #[.int .u64 r.e, .int .u64 r.f, .slice r.L.A r.L.n r.L.c, .slice r.P.A r.P.n r.P.c, .int .u64 r.h, .int .u64 r.t, .slice r.K.A r.K.n r.K.c, .slice r.X.A r.X.n r.X.c, .slice r.S.A r.S.n r.S.c] 25)).alloc (.cells #[.int .i64 a.d, .int .i64 a.ar, .int .i64 a.at_, .int .u64 a.old, .int .u64 a.new] 27)).alloc (.cells #[.int .i64 b.d, .int .i64 b.ar, .int .i64 b.at_, .int .u64 b.old, .int .u64 b.new] 27)) (w.heap.size + 1 + 1) 27 #[.int .i64 b.d, .int .i64 b.ar, .int .i64 b.at_, .int .u64 b.old, .int .u64 b.new] := blk_at (by simp)
  have R_0 := Lib.hid ((R0.out.below W_0.out).more W_0.out.size)
  have X_0 := Lib.hid x0
  have Y_0 := Lib.hid y0
  have Z_0 := Lib.hid z0
  clear x0 y0 z0
  go_enter Try.func5, Try.ntmps5
  go_wp2_with (first | (go_at_call 6; (with_reducible refine (awake_c _).mono ?_); rintro e w1 ⟨rfl, hb⟩; go_must (have X_1 := Lib.hid (X_0.out.below hb X_0.out.lt); have Y_1 := Lib.hid (Y_0.out.below hb Y_0.out.lt); have Z_1 := Lib.hid (Z_0.out.below hb Z_0.out.lt); have R_1 := Lib.hid ((R_0.out.below hb).more hb.size); have W_1 := Lib.hid (W_0.out.trans (hb.mono W_0.out.size))); have hcX_1 := X_1.out.cell; have hzX_1 := X_1.out.lt; have hcY_1 := Y_1.out.cell; have hzY_1 := Y_1.out.lt; have hcZ_1 := Z_1.out.cell; have hzZ_1 := Z_1.out.lt; clear hb) | (go_at_call 7; (with_reducible refine (short_no _ w1.heap.size r m R_1.out (Nat.le_refl _) HF.out).mono ?_); rintro e w2 ⟨rfl, hb⟩; go_must (have X_2 := Lib.hid (X_1.out.below hb X_1.out.lt); have Y_2 := Lib.hid (Y_1.out.below hb Y_1.out.lt); have Z_2 := Lib.hid (Z_1.out.below hb Z_1.out.lt); have R_2 := Lib.hid ((R_1.out.below hb).more hb.size); have W_2 := Lib.hid (W_1.out.trans (hb.mono W_1.out.size))); have hcX_2 := X_2.out.cell; have hzX_2 := X_2.out.lt; have hcY_2 := Y_2.out.cell; have hzY_2 := Y_2.out.lt; have hcZ_2 := Z_2.out.cell; have hzZ_2 := Z_2.out.lt; clear hb hcX_1 hcY_1 hcZ_1))
  go_ret
  exact ⟨rfl, W_2.out⟩

theorem walk (r : R) (m : M) (a b : Acc) (w : World) (hr : Rm w w.heap.size r m) (ha : a.ok) (hb : b.ok) :
    Calls Try.prog 5 #[.agg #[.int .u64 r.e, .int .u64 r.f, .slice r.L.A r.L.n r.L.c, .slice r.P.A r.P.n r.P.c, .int .u64 r.h, .int .u64 r.t, .slice r.K.A r.K.n r.K.c, .slice r.X.A r.X.n r.X.c, .slice r.S.A r.S.n r.S.c], .agg #[.int .i64 a.d, .int .i64 a.ar, .int .i64 a.at_, .int .u64 a.old, .int .u64 a.new], .agg #[.int .i64 b.d, .int .i64 b.ar, .int .i64 b.at_, .int .u64 b.old, .int .u64 b.new]] w fun e w' => e = .returned (.bool true) ∧ Below w.heap.size w w' := by
  by_cases hf : Few m
  · obtain ⟨now, hn⟩ : ∃ now, (if there (acc m a).1 a.ar a.at_ then Memc.get (acc m a).1 a.ar a.at_ else 0) = now := ⟨_, rfl⟩
    have e3 : acc (acc m a).1 ⟨1, a.ar, a.at_, 0, 0⟩ = ((acc m a).1, now, false) := by rw [acc_read, hn]
    have f1 := acc_few hf a
    have f9 := acc_few hf b
    by_cases p1 : a.ar = b.ar
    · have q1 : (a.ar == b.ar) = true := by simp [p1]
      by_cases p2 : a.at_ = b.at_
      · have q2 : (a.at_ == b.at_) = true := by simp [p2]
        rcases read_back m a now hn with ⟨h2, h3⟩ | ⟨h2, h3⟩ | ⟨h2, h3, h4, h5 | h5⟩
        · exact walk_AS r m _ m _ a b _ now w hr ha hb hf f1 f9 true rfl (by simp [h3]) q1 q2 rfl h2 rfl e3
        · exact walk_BS r m _ m _ a b _ now w hr ha hb hf f1 f9 false rfl (by simp [h3]) q1 q2 rfl h2 rfl e3
        · exact walk_C1S r m _ m _ a b _ now w hr ha hb hf f1 f9 false rfl (by simp [h3]) h4 h5 q1 q2 rfl h2 rfl e3
        · exact walk_C2S r m _ m _ a b _ now w hr ha hb hf f1 f9 false rfl (by simp [h3]) h4 h5 q1 q2 rfl h2 rfl e3
      · have q2 : (a.at_ == b.at_) = false := by simp [p2]
        have hc := acc_comm m a b (fun h => p2 h.2)
        rcases read_back m a now hn with ⟨h2, h3⟩ | ⟨h2, h3⟩ | ⟨h2, h3, h4, h5 | h5⟩
        · exact walk_AAT r m _ _ _ a b _ now w hr ha hb hf f1 f9 true rfl (by simp [h3]) q1 q2 rfl h2 rfl e3 rfl rfl hc.symm
        · exact walk_BAT r m _ _ _ a b _ now w hr ha hb hf f1 f9 false rfl (by simp [h3]) q1 q2 rfl h2 rfl e3 rfl rfl hc.symm
        · exact walk_C1AT r m _ _ _ a b _ now w hr ha hb hf f1 f9 false rfl (by simp [h3]) h4 h5 q1 q2 rfl h2 rfl e3 rfl rfl hc.symm
        · exact walk_C2AT r m _ _ _ a b _ now w hr ha hb hf f1 f9 false rfl (by simp [h3]) h4 h5 q1 q2 rfl h2 rfl e3 rfl rfl hc.symm
    · have q1 : (a.ar == b.ar) = false := by simp [p1]
      have hc := acc_comm m a b (fun h => p1 h.1)
      rcases read_back m a now hn with ⟨h2, h3⟩ | ⟨h2, h3⟩ | ⟨h2, h3, h4, h5 | h5⟩
      · exact walk_AAR r m _ _ _ a b _ now w hr ha hb hf f1 f9 true rfl (by simp [h3]) q1 rfl h2 rfl e3 rfl rfl hc.symm
      · exact walk_BAR r m _ _ _ a b _ now w hr ha hb hf f1 f9 false rfl (by simp [h3]) q1 rfl h2 rfl e3 rfl rfl hc.symm
      · exact walk_C1AR r m _ _ _ a b _ now w hr ha hb hf f1 f9 false rfl (by simp [h3]) h4 h5 q1 rfl h2 rfl e3 rfl rfl hc.symm
      · exact walk_C2AR r m _ _ _ a b _ now w hr ha hb hf f1 f9 false rfl (by simp [h3]) h4 h5 q1 rfl h2 rfl e3 rfl rfl hc.symm
  · exact walk_long r m a b w hr hf

/-! ### THE ROW's STEP -/
set_option maxRecDepth 100000 in
theorem lifted (os : Os) (started : os.Started) (H : Type) (enc : TypeId × Value → H) :
    ReturnsInHanded {} Try.checked os 5 .any (Rows.storeApartSpec.pre6 enc Try.prog Try.f5 Rows.storeApartRow.domain false) (Rows.storeApartSpec.post enc Try.prog Try.f5 false true false false) := by
  refine returnsInHanded_of_change (C := Try.checked) own started (by kernel_rfl) Try.func5
    (ChangeSpec.witness6 (enc := enc) (C := Try.checked) false ⟨#[], #[.agg #[.int .u64 0, .int .u64 0, .slice none 0 0, .slice none 0 0, .int .u64 0, .int .u64 0, .slice none 0 0, .slice none 0 0, .slice none 0 0], .agg #[.int .i64 0, .int .i64 0, .int .i64 0, .int .u64 0, .int .u64 0], .agg #[.int .i64 0, .int .i64 0, .int .i64 0, .int .u64 0, .int .u64 0]], []⟩ 8 (by kernel_rfl) (by kernel_rfl) (by kernel_rfl) (by kernel_rfl)) ?_
  intro W base args ds gs before hval0 hW hcnd _
  have hval : ∀ (j : Nat) t v, Try.f5.params[j]? = some t → args[j]? = some v → Value.okWide Try.prog W .any base t v := hval0
  have hW' := hW
  obtain ⟨p, q, hA0, hV, rfl, hfz, hnd⟩ := hW
  have hA : DataW.TrodAll enc Try.prog W 0 (fun _ => true) true Try.f5.params.toList args.toList ds p := hA0
  rw [Try.params5] at hA hval
  obtain ⟨v0, vs0, d0, ds0, p0, q0, hargs, rfl, rfl, h0, r0⟩ := trodAll_cons hA
  obtain ⟨v1, vs1, d1, ds1, p1, q1, rfl, rfl, rfl, h1, r1⟩ := trodAll_cons r0
  obtain ⟨v2, vs2, d2, ds2, p2, q2, rfl, rfl, rfl, h2, r2⟩ := trodAll_cons r1
  obtain ⟨rfl, rfl, rfl⟩ := trodAll_nil r2
  obtain rfl : args = #[v0, v1, v2] := by cases args; simp_all
  obtain ⟨rfl, rfl⟩ := trodVars_none hV
  have k0 := h0
  have lt0 : ∀ x ∈ p0, x.block < W.heap.size := by obtain ⟨m, hm⟩ := k0; exact DataW.trod_lt m _ _ _ hm
  have k1 := h1
  have lt1 : ∀ x ∈ p1, x.block < W.heap.size := by obtain ⟨m, hm⟩ := k1; exact DataW.trod_lt m _ _ _ hm
  have k2 := h2
  have lt2 : ∀ x ∈ p2, x.block < W.heap.size := by obtain ⟨m, hm⟩ := k2; exact DataW.trod_lt m _ _ _ hm
  obtain ⟨r, m, rfl, hr⟩ := open_mem (hval 0 25 v0 rfl rfl) h0
  obtain ⟨a, rfl, ha⟩ := open_acc (hval 1 27 v1 rfl rfl) h1
  obtain ⟨b, rfl, hb⟩ := open_acc (hval 2 27 v2 rfl rfl) h2
  clear hA0 hval0
  refine (walk r m a b W hr ha hb).mono fun e W' ⟨he, bel⟩ => ?_
  subst he
  exact ⟨_, rfl, _, _, _, [], _, [], hW', trodAll_mk1 (shut_bool Try.underlying4 _), (trodAll_cons_mk (Below.trod laidOut (by kernel_rfl) (of_decide_eq_true (by kernel_rfl)) k0 bel lt0) (trodAll_cons_mk (Below.trod laidOut (by kernel_rfl) (of_decide_eq_true (by kernel_rfl)) k1 bel lt1) (trodAll_cons_mk (Below.trod laidOut (by kernel_rfl) (of_decide_eq_true (by kernel_rfl)) k2 bel lt2) trodAll_mk0))), rfl, bel.frame _, fun h => by cases h⟩

theorem over : Rows.storeApartRow.holds Try.pinned (OpenSpec.ofChange Rows.storeApartSpec) :=
  OpenClaim.holds_of_wide 5 Try.f5 rfl rfl rfl rfl rfl rfl rfl ⟨rfl, rfl, rfl, rfl, rfl⟩ rfl rfl rfl rfl rfl (by kernel_rfl) Try.func5 (by kernel_rfl)
    (of_decide_eq_true (by kernel_rfl)) (by unfold Func.isWrapper; first | (rw [if_pos (by decide +kernel)]; kernel_rfl) | (rw [if_neg (by decide +kernel)]; exact ⟨rfl, rfl⟩))
    (fun os started H enc _ => lifted os started H enc)

/-- ████ THE STATEMENT ████ -/
theorem proved : Rows.StoreApartSaid :=
  over
#print axioms proved
end Go.Proofs.Ytbnadfdajjggdaa.storeApart
