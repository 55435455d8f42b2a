/- Copying the words: slices.Clone and the package store's copied, each by its contract. -/
import Derived.Test.YtjgbgjkjnlaloaaStoreB
import Derived.Lib.SliceRun
namespace Go.Proofs.Ytjgbgjkjnlaloaa.Storec
open Go.RowKit Go.Proofs.Ytjgbgjkjnlaloaa.Memc
set_option linter.unusedVariables false
set_option maxRecDepth 100000

theorem u64_info : (Try.prog.info? 22).map (fun i => (i.zero, i.size, i.bytes)) = some (some (.int .u64 0), 1, 8) := by kernel_rfl

/-- a new list of words -/
def Fresh (w : World) (xs : List Int) (e : Ending) (w' : World) : Prop :=
  ∃ s : Sl, e = .returned (.slice s.A s.n s.c) ∧ Own w' w.heap.size s xs ∧ Below w.heap.size w w'

theorem oneCell_ints (xs : List Int) : ∀ u ∈ xs.map (Value.int .u64), u.oneCell' = true := by
  intro u hu
  obtain ⟨x, _, rfl⟩ := List.mem_map.1 hu
  rfl

theorem own_new {w w' : World} {v : Value} {n : Nat} {xs : List Int} (hu : u64s xs) (hn : n = xs.length) (h : w'.ownsRow w.heap.size 22 1 v n ([] ++ xs.map (Value.int .u64))) (hb : Below w.heap.size w w') :
    Fresh w xs (.returned v) w' := by
  subst hn
  rcases h.2 with ⟨hv, _⟩ | ⟨g, cap, cur, hv, _⟩
  · exact ⟨⟨none, 0, 0⟩, by rw [hv], ⟨hu, by rw [hv] at h; simpa using h⟩, hb⟩
  · exact ⟨⟨some ⟨g, 0, none⟩, xs.length, cap⟩, by rw [hv], ⟨hu, by rw [hv] at h; simpa using h⟩, hb⟩

set_option maxHeartbeats 1000000 in
theorem clone_nil (w : World) (n c : Nat) :
    Calls Try.prog 72 #[.slice none n c] w fun e w' => e = .returned (.slice none 0 0) ∧ w = w' := by
  have hq := fun (W : World) (A : Option Addr) (n c n' c' : Nat) => Lib.run_eql_slice_nil (P := Try.prog) W 23 22 A n c n' c' Try.underlying23
  go_enter Try.func72, Try.ntmps72
  go_wp2
  go_ret
  exact ⟨rfl, rfl⟩

set_option maxHeartbeats 1000000 in
theorem clone_some (w : World) (B : Nat) (ad : Addr) (n c : Nat) (xs : List Int) (h : Rd w B ⟨some ad, n, c⟩ xs) (hB : B ≤ w.heap.size) (hm : xs.length ≤ 1000000) :
    Calls Try.prog 72 #[.slice (some ad) n c] w (Fresh w xs) := by
  have hq := fun (W : World) (A : Option Addr) (n c n' c' : Nat) => Lib.run_eql_slice_nil (P := Try.prog) W 23 22 A n c n' c' Try.underlying23
  obtain ⟨i0, hi0, hz0, hz1, hz2⟩ := info_parts u64_info
  obtain ⟨hn, hnc, hcm, hu, _, hcells⟩ := h
  simp only at hn hnc hcm hcells
  subst hn
  have hnews : ∀ (j : Nat) (u : Value), (xs.map (Value.int .u64))[j]? = some u → w.cell? (ad.add j) = some u := by
    intro j u hj
    rw [List.getElem?_map] at hj
    rcases hx : xs[j]? with _ | x
    · rw [hx] at hj; cases hj
    · rw [hx] at hj
      obtain ⟨ad', e, hb, hc⟩ := hcells (by have := (List.getElem?_eq_some_iff.1 hx).1; omega)
      injection e with e
      subst e
      rw [hc j x hx]; exact hj
  have hlow : ∀ (j : Nat) (u : Value), (xs.map (Value.int .u64))[j]? = some u → ad.block < B := by
    intro j u hj
    have hl : j < (xs.map (Value.int .u64)).length := (List.getElem?_eq_some_iff.1 hj).1
    obtain ⟨ad', e, hb, hc⟩ := hcells (by simp at hl; omega)
    injection e with e
    subst e
    exact hb
  have HN : ∀ o : Obj, Hid (∀ (j : Nat) (u : Value), (xs.map (Value.int .u64))[j]? = some u → (w.alloc o).cell? (ad.add j) = some u) := fun o j u hj =>
    (World.cell?_alloc_lt w o _ (by rw [block_of_add]; have := hlow j u hj; omega)).trans (hnews j u hj)
  have HU : Hid (u64s xs) := hu
  clear hnews hlow hcells hu
  go_enter Try.func72, Try.ntmps72
  go_wp2_with (at_builtin; refine wpList_append_own _ rfl _ _ 23 rfl w.heap.size 22 i0 _ 1 8 Try.underlying23 hi0 hz0 hz1 hz2 rfl (by omega) (.slice (some ⟨w.heap.size, 0, none⟩) 0 0) 0 [] rfl (World.ownsRow_made w _ 0 (Nat.le_refl _) (Nat.zero_le _) (by simp)) ad xs.length c (xs.map (Value.int .u64)) rfl (by simp) (HN _).out (oneCell_ints xs) (by unfold maxLen; omega) (by omega) (by simp) ?_; intro v1 w1 hown1 hg1 _)
  go_ret
  exact own_new HU.out (by simp) hown1 (((Below.refl _ _).alloc (Nat.le_refl _) _).grown hg1 (by simp) (by simp [Value.ownBlock]))

theorem clone_c (w : World) (B : Nat) (s : Sl) (xs : List Int) (h : Rd w B s xs) (hB : B ≤ w.heap.size) (hm : xs.length ≤ 1000000) :
    Calls Try.prog 72 #[.slice s.A s.n s.c] w (Fresh w xs) := by
  obtain ⟨A, n, c⟩ := s
  rcases A with _ | ad
  · refine (clone_nil w n c).mono fun e w' ⟨he, hw⟩ => ?_
    subst hw
    have hx : xs = [] := by
      have h1 : n = xs.length := h.1
      have h2 : c = 0 := h.2.2.2.2.1 rfl
      have h3 : n ≤ c := h.2.1
      exact List.eq_nil_of_length_eq_zero (by omega)
    subst hx
    exact ⟨⟨none, 0, 0⟩, he, ⟨u64s_nil, World.ownsRow_nil _ _ _ _⟩, Below.refl _ _⟩
  · exact clone_some w B ad n c xs h hB hm

/-- a copy of the words -/
def Copied (w : World) (m : M) (e : Ending) (w' : World) : Prop :=
  ∃ r : R, e = .returned (.agg #[.int .u64 r.e, .int .u64 r.f, .slice r.L.A r.L.n r.L.c, .slice r.P.A r.P.n r.P.c, .int .u64 r.h, .int .u64 r.t, .slice r.K.A r.K.n r.K.c, .slice r.X.A r.X.n r.X.c, .slice r.S.A r.S.n r.S.c]) ∧
    (r.e = m.e ∧ r.f = m.f ∧ r.h = m.h ∧ r.t = m.t) ∧ Five w' w.heap.size r m ∧ Below w.heap.size w w'

/-- rows one behind the other are apart -/
theorem five_mk {w : World} {base : Nat} {m : M} {e f h t : Int} {s1 s2 s3 s4 s5 : Sl} {n1 n2 n3 n4 : Nat}
    (o1 : Own w base s1 m.li) (o2 : Own w base s2 m.pi) (o3 : Own w base s3 m.lk) (o4 : Own w base s4 m.nx) (o5 : Own w base s5 m.sl)
    (i1 : ∀ ad, s1.A = some ad → ad.block < n1) (i2 : ∀ ad, s2.A = some ad → n1 ≤ ad.block ∧ ad.block < n2) (i3 : ∀ ad, s3.A = some ad → n2 ≤ ad.block ∧ ad.block < n3)
    (i4 : ∀ ad, s4.A = some ad → n3 ≤ ad.block ∧ ad.block < n4) (i5 : ∀ ad, s5.A = some ad → n4 ≤ ad.block) (l1 : n1 ≤ n2) (l2 : n2 ≤ n3) (l3 : n3 ≤ n4) :
    Five w base ⟨e, f, s1, s2, h, t, s3, s4, s5⟩ m := by
  constructor
  · intro a hl
    rcases hl with rfl | rfl | rfl | rfl | rfl
    · exact o1
    · exact o2
    · exact o3
    · exact o4
    · exact o5
  · intro a hl b hl' hne ad had ad' had'
    rcases hl with rfl | rfl | rfl | rfl | rfl <;> rcases hl' with rfl | rfl | rfl | rfl | rfl <;> first | exact absurd rfl hne | skip
    all_goals
      simp only [R.sl] at had had'
      first
        | (have := i1 _ had; have := i2 _ had'; omega) | (have := i1 _ had; have := i3 _ had'; omega) | (have := i1 _ had; have := i4 _ had'; omega) | (have := i1 _ had; have := i5 _ had'; omega)
        | (have := i2 _ had; have := i1 _ had'; omega) | (have := i2 _ had; have := i3 _ had'; omega) | (have := i2 _ had; have := i4 _ had'; omega) | (have := i2 _ had; have := i5 _ had'; omega)
        | (have := i3 _ had; have := i1 _ had'; omega) | (have := i3 _ had; have := i2 _ had'; omega) | (have := i3 _ had; have := i4 _ had'; omega) | (have := i3 _ had; have := i5 _ had'; omega)
        | (have := i4 _ had; have := i1 _ had'; omega) | (have := i4 _ had; have := i2 _ had'; omega) | (have := i4 _ had; have := i3 _ had'; omega) | (have := i4 _ had; have := i5 _ had'; omega)
        | (have := i5 _ had; have := i1 _ had'; omega) | (have := i5 _ had; have := i2 _ had'; omega) | (have := i5 _ had; have := i3 _ had'; omega) | (have := i5 _ had; have := i4 _ had'; omega)

/-- what is known behind k of the five copies: b: the box that holds them, c: where the result goes -/
structure Step (w W : World) (b c : Nat) (cs ds : Array Value) : Prop where
  below : Below w.heap.size w W
  box : Blk W b 25 cs
  res : Blk W c 25 ds
theorem Step.next {w W W' : World} {b c : Nat} {cs ds : Array Value} (h : Step w W b c cs ds) (hb : Below W.heap.size W W') (hbw : w.heap.size ≤ b) (i : Nat) (v : Value) (hne : b ≠ c) :
    Step w (W'.setCell ⟨b, i, none⟩ v) b c (cs.setIfInBounds i v) ds := by
  have hz := h.below.size
  refine ⟨(h.below.trans (hb.mono hz)).setCell hbw _, (h.box.below hb h.box.lt).set_ i v, (h.res.below hb h.res.lt).far (p := ⟨b, i, none⟩) (fun e => hne e.symm) v⟩



set_option maxHeartbeats 2000000 in
theorem copied_c (w : World) (B : Nat) (r : R) (m : M) (h : Rm w B r m) (hB : B ≤ w.heap.size) (hm : ∀ a, (m.area a).length ≤ 1000000) :
    Calls Try.prog 41 #[.agg #[.int .u64 r.e, .int .u64 r.f, .slice r.L.A r.L.n r.L.c, .slice r.P.A r.P.n r.P.c, .int .u64 r.h, .int .u64 r.t, .slice r.K.A r.K.n r.K.c, .slice r.X.A r.X.n r.X.c, .slice r.S.A r.S.n r.S.c]] w (Copied w m) := by
  have HR : Hid (Rm w w.heap.size r m) := h.more hB
  have HM : Hid (∀ a, (m.area a).length ≤ 1000000) := hm
  clear h hm hB
  have S0 : Step w ((w.alloc (.cells #[.int .u64 r.e, .int .u64 r.f, .slice r.L.A r.L.n r.L.c, .slice r.P.A r.P.n r.P.c, .int .u64 r.h, .int .u64 r.t, .slice r.K.A r.K.n r.K.c, .slice r.X.A r.X.n r.X.c, .slice r.S.A r.S.n r.S.c] 25)).alloc (.cells #[.int .u64 0, .int .u64 0, .slice none 0 0, .slice none 0 0, .int .u64 0, .int .u64 0, .slice none 0 0, .slice none 0 0, .slice none 0 0] 25)) w.heap.size (w.heap.size + 1) #[.int .u64 r.e, .int .u64 r.f, .slice r.L.A r.L.n r.L.c, .slice r.P.A r.P.n r.P.c, .int .u64 r.h, .int .u64 r.t, .slice r.K.A r.K.n r.K.c, .slice r.X.A r.X.n r.X.c, .slice r.S.A r.S.n r.S.c] #[.int .u64 0, .int .u64 0, .slice none 0 0, .slice none 0 0, .int .u64 0, .int .u64 0, .slice none 0 0, .slice none 0 0, .slice none 0 0] :=
    ⟨((Below.refl _ _).alloc (Nat.le_refl _) _).alloc (by simp) _, (Blk.new _ _ _).alloc _, by simpa using Blk.new (w.alloc (.cells #[.int .u64 r.e, .int .u64 r.f, .slice r.L.A r.L.n r.L.c, .slice r.P.A r.P.n r.P.c, .int .u64 r.h, .int .u64 r.t, .slice r.K.A r.K.n r.K.c, .slice r.X.A r.X.n r.X.c, .slice r.S.A r.S.n r.S.c] 25)) 25 #[.int .u64 0, .int .u64 0, .slice none 0 0, .slice none 0 0, .int .u64 0, .int .u64 0, .slice none 0 0, .slice none 0 0, .slice none 0 0]⟩
  have HS0 := Lib.hid S0
  clear S0
  go_enter Try.func41, Try.ntmps41
  go_wp2_with fail
  refine (clone_c _ w.heap.size r.L m.li (HR.out.2.2.2.2.2.1.below HS0.out.below) HS0.out.below.size (HM.out 3)).mono ?_
  rintro e w1 ⟨s1, rfl, ho1, hb1⟩
  have HO1 := Lib.hid ho1
  have HB1 := Lib.hid hb1
  have S1 : Step w (w1.setCell ⟨w.heap.size, 2, none⟩ (.slice s1.A s1.n s1.c)) w.heap.size (w.heap.size + 1) #[.int .u64 r.e, .int .u64 r.f, .slice s1.A s1.n s1.c, .slice r.P.A r.P.n r.P.c, .int .u64 r.h, .int .u64 r.t, .slice r.K.A r.K.n r.K.c, .slice r.X.A r.X.n r.X.c, .slice r.S.A r.S.n r.S.c] #[.int .u64 0, .int .u64 0, .slice none 0 0, .slice none 0 0, .int .u64 0, .int .u64 0, .slice none 0 0, .slice none 0 0, .slice none 0 0] := HS0.out.next hb1 (Nat.le_refl _) 2 _ (by omega)
  have HS1 := Lib.hid S1
  clear S1
  obtain ⟨rb1, rc1⟩ := two_below hb1 HS0.out.box HS0.out.res
  obtain ⟨cb1, fb1, cc1, fc1⟩ := two_rules rb1 rc1
  clear rb1 rc1 ho1 hb1
  go_wp2_with fail
  refine (clone_c _ w.heap.size r.P m.pi (HR.out.2.2.2.2.2.2.1.below HS1.out.below) HS1.out.below.size (HM.out 4)).mono ?_
  rintro e w2 ⟨s2, rfl, ho2, hb2⟩
  have HO2 := Lib.hid ho2
  have HB2 := Lib.hid hb2
  have S2 : Step w (w2.setCell ⟨w.heap.size, 3, none⟩ (.slice s2.A s2.n s2.c)) w.heap.size (w.heap.size + 1) #[.int .u64 r.e, .int .u64 r.f, .slice s1.A s1.n s1.c, .slice s2.A s2.n s2.c, .int .u64 r.h, .int .u64 r.t, .slice r.K.A r.K.n r.K.c, .slice r.X.A r.X.n r.X.c, .slice r.S.A r.S.n r.S.c] #[.int .u64 0, .int .u64 0, .slice none 0 0, .slice none 0 0, .int .u64 0, .int .u64 0, .slice none 0 0, .slice none 0 0, .slice none 0 0] := HS1.out.next hb2 (Nat.le_refl _) 3 _ (by omega)
  have HS2 := Lib.hid S2
  clear S2
  obtain ⟨rb2, rc2⟩ := two_below hb2 HS1.out.box HS1.out.res
  obtain ⟨cb2, fb2, cc2, fc2⟩ := two_rules rb2 rc2
  clear rb2 rc2 ho2 hb2 cb1 fb1 cc1 fc1
  go_wp2_with fail
  refine (clone_c _ w.heap.size r.K m.lk (HR.out.2.2.2.2.2.2.2.1.below HS2.out.below) HS2.out.below.size (HM.out 7)).mono ?_
  rintro e w3 ⟨s3, rfl, ho3, hb3⟩
  have HO3 := Lib.hid ho3
  have HB3 := Lib.hid hb3
  have S3 : Step w (w3.setCell ⟨w.heap.size, 6, none⟩ (.slice s3.A s3.n s3.c)) w.heap.size (w.heap.size + 1) #[.int .u64 r.e, .int .u64 r.f, .slice s1.A s1.n s1.c, .slice s2.A s2.n s2.c, .int .u64 r.h, .int .u64 r.t, .slice s3.A s3.n s3.c, .slice r.X.A r.X.n r.X.c, .slice r.S.A r.S.n r.S.c] #[.int .u64 0, .int .u64 0, .slice none 0 0, .slice none 0 0, .int .u64 0, .int .u64 0, .slice none 0 0, .slice none 0 0, .slice none 0 0] := HS2.out.next hb3 (Nat.le_refl _) 6 _ (by omega)
  have HS3 := Lib.hid S3
  clear S3
  obtain ⟨rb3, rc3⟩ := two_below hb3 HS2.out.box HS2.out.res
  obtain ⟨cb3, fb3, cc3, fc3⟩ := two_rules rb3 rc3
  clear rb3 rc3 ho3 hb3 cb2 fb2 cc2 fc2
  go_wp2_with fail
  refine (clone_c _ w.heap.size r.X m.nx (HR.out.2.2.2.2.2.2.2.2.1.below HS3.out.below) HS3.out.below.size (HM.out 8)).mono ?_
  rintro e w4 ⟨s4, rfl, ho4, hb4⟩
  have HO4 := Lib.hid ho4
  have HB4 := Lib.hid hb4
  have S4 : Step w (w4.setCell ⟨w.heap.size, 7, none⟩ (.slice s4.A s4.n s4.c)) w.heap.size (w.heap.size + 1) #[.int .u64 r.e, .int .u64 r.f, .slice s1.A s1.n s1.c, .slice s2.A s2.n s2.c, .int .u64 r.h, .int .u64 r.t, .slice s3.A s3.n s3.c, .slice s4.A s4.n s4.c, .slice r.S.A r.S.n r.S.c] #[.int .u64 0, .int .u64 0, .slice none 0 0, .slice none 0 0, .int .u64 0, .int .u64 0, .slice none 0 0, .slice none 0 0, .slice none 0 0] := HS3.out.next hb4 (Nat.le_refl _) 7 _ (by omega)
  have HS4 := Lib.hid S4
  clear S4
  obtain ⟨rb4, rc4⟩ := two_below hb4 HS3.out.box HS3.out.res
  obtain ⟨cb4, fb4, cc4, fc4⟩ := two_rules rb4 rc4
  clear rb4 rc4 ho4 hb4 cb3 fb3 cc3 fc3
  go_wp2_with fail
  refine (clone_c _ w.heap.size r.S m.sl (HR.out.2.2.2.2.2.2.2.2.2.below HS4.out.below) HS4.out.below.size (HM.out 9)).mono ?_
  rintro e w5 ⟨s5, rfl, ho5, hb5⟩
  have HO5 := Lib.hid ho5
  have HB5 := Lib.hid hb5
  have S5 : Step w (w5.setCell ⟨w.heap.size, 8, none⟩ (.slice s5.A s5.n s5.c)) w.heap.size (w.heap.size + 1) #[.int .u64 r.e, .int .u64 r.f, .slice s1.A s1.n s1.c, .slice s2.A s2.n s2.c, .int .u64 r.h, .int .u64 r.t, .slice s3.A s3.n s3.c, .slice s4.A s4.n s4.c, .slice s5.A s5.n s5.c] #[.int .u64 0, .int .u64 0, .slice none 0 0, .slice none 0 0, .int .u64 0, .int .u64 0, .slice none 0 0, .slice none 0 0, .slice none 0 0] := HS4.out.next hb5 (Nat.le_refl _) 8 _ (by omega)
  have HS5 := Lib.hid S5
  clear S5
  obtain ⟨rb5, rc5⟩ := two_below hb5 HS4.out.box HS4.out.res
  obtain ⟨cb5, fb5, cc5, fc5⟩ := two_rules rb5 rc5
  clear rb5 rc5 ho5 hb5 cb4 fb4 cc4 fc4
  go_wp2
  refine bodyPost_ret (v := .agg #[.int .u64 r.e, .int .u64 r.f, .slice s1.A s1.n s1.c, .slice s2.A s2.n s2.c, .int .u64 r.h, .int .u64 r.t, .slice s3.A s3.n s3.c, .slice s4.A s4.n s4.c, .slice s5.A s5.n s5.c]) (by simp [results, Try.results41, go_sem, cc5]) rfl ?_
  have q0 := HS0.out.res.lt
  have q1 := HS1.out.res.lt
  have q2 := HS2.out.res.lt
  have q3 := HS3.out.res.lt
  have q4 := HS4.out.res.lt
  have o1_1 := HO1.out.step (i := 2) (b := w.heap.size) (by omega) (.slice s1.A s1.n s1.c)
  have o1_2 := (o1_1.below HB2.out (Nat.le_refl _)).step (i := 3) (b := w.heap.size) (by omega) (.slice s2.A s2.n s2.c)
  have o1_3 := (o1_2.below HB3.out (Nat.le_refl _)).step (i := 6) (b := w.heap.size) (by omega) (.slice s3.A s3.n s3.c)
  have o1_4 := (o1_3.below HB4.out (Nat.le_refl _)).step (i := 7) (b := w.heap.size) (by omega) (.slice s4.A s4.n s4.c)
  have o1_5 := (o1_4.below HB5.out (Nat.le_refl _)).step (i := 8) (b := w.heap.size) (by omega) (.slice s5.A s5.n s5.c)
  have i1 := fun ad had => HO1.out.lt (ad := ad) had
  have o2_2 := HO2.out.step (i := 3) (b := w.heap.size) (by omega) (.slice s2.A s2.n s2.c)
  have o2_3 := (o2_2.below HB3.out (Nat.le_refl _)).step (i := 6) (b := w.heap.size) (by omega) (.slice s3.A s3.n s3.c)
  have o2_4 := (o2_3.below HB4.out (Nat.le_refl _)).step (i := 7) (b := w.heap.size) (by omega) (.slice s4.A s4.n s4.c)
  have o2_5 := (o2_4.below HB5.out (Nat.le_refl _)).step (i := 8) (b := w.heap.size) (by omega) (.slice s5.A s5.n s5.c)
  have i2 := fun ad had => HO2.out.lt (ad := ad) had
  have o3_3 := HO3.out.step (i := 6) (b := w.heap.size) (by omega) (.slice s3.A s3.n s3.c)
  have o3_4 := (o3_3.below HB4.out (Nat.le_refl _)).step (i := 7) (b := w.heap.size) (by omega) (.slice s4.A s4.n s4.c)
  have o3_5 := (o3_4.below HB5.out (Nat.le_refl _)).step (i := 8) (b := w.heap.size) (by omega) (.slice s5.A s5.n s5.c)
  have i3 := fun ad had => HO3.out.lt (ad := ad) had
  have o4_4 := HO4.out.step (i := 7) (b := w.heap.size) (by omega) (.slice s4.A s4.n s4.c)
  have o4_5 := (o4_4.below HB5.out (Nat.le_refl _)).step (i := 8) (b := w.heap.size) (by omega) (.slice s5.A s5.n s5.c)
  have i4 := fun ad had => HO4.out.lt (ad := ad) had
  have o5_5 := HO5.out.step (i := 8) (b := w.heap.size) (by omega) (.slice s5.A s5.n s5.c)
  have i5 := fun ad had => HO5.out.lt (ad := ad) had
  have z1 := HB2.out.size
  have z2 := HB3.out.size
  have z3 := HB4.out.size
  have z4 := HB5.out.size
  rw [size_set] at z1 z2 z3 z4
  rw [size_set] at q1 q2 q3 q4
  simp only [size_set] at i2
  simp only [size_set] at i3
  simp only [size_set] at i4
  simp only [size_set] at i5
  refine ⟨⟨r.e, r.f, s1, s2, r.h, r.t, s3, s4, s5⟩, rfl, ⟨HR.out.1, HR.out.2.1, HR.out.2.2.1, HR.out.2.2.2.1⟩, ?_, below_nine HS5.out.below (by omega) _ _ _ _ _ _ _ _ _⟩
  refine five_mk (n1 := w1.heap.size) (n2 := w2.heap.size) (n3 := w3.heap.size) (n4 := w4.heap.size)
    ((o1_5.nine (by omega) _ _ _ _ _ _ _ _ _).weaken (by omega))
    ((o2_5.nine (by simp only [size_set]; omega) _ _ _ _ _ _ _ _ _).weaken (by simp only [size_set]; omega))
    ((o3_5.nine (by simp only [size_set]; omega) _ _ _ _ _ _ _ _ _).weaken (by simp only [size_set]; omega))
    ((o4_5.nine (by simp only [size_set]; omega) _ _ _ _ _ _ _ _ _).weaken (by simp only [size_set]; omega))
    ((o5_5.nine (by simp only [size_set]; omega) _ _ _ _ _ _ _ _ _).weaken (by simp only [size_set]; omega))
    (fun ad had => (i1 ad had).2) i2 i3 i4 (fun ad had => (i5 ad had).1) z1 z2 z3
end Go.Proofs.Ytjgbgjkjnlaloaa.Storec
