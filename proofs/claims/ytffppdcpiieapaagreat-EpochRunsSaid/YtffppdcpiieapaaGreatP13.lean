/- A part of the proof. -/
import Derived.Deep.DeepCutAuto
import Derived.StillTailTactics
import Derived.Deep.RegionHeld3
import Derived.Test.YtffppdcpiieapaaGreatP5
import Derived.Test.YtffppdcpiieapaaGreatP11
import Derived.Test.YtffppdcpiieapaaGreatP12
namespace Go.Proofs.YtffppdcpiieapaaGreat.Machc
open Go.RowKit Memc Refc
set_option linter.unusedVariables false
set_option maxRecDepth 100000

theorem goR_yes {ask : FS -> Acc} {tell : FS -> Int -> Bool -> FS} {s : RS} {t k : Nat} {f : FS} {x : Ck} (hf : s.on[t]? = some f) (hk : s.call[t]? = some (k : Int)) (hx : s.calls[k]? = some x) (hp : (tell f (acc s.m (ask f)).2.1 (acc s.m (ask f)).2.2).pc = 0) :
   goR ask tell s t = ⟨(acc s.m (ask f)).1, s.on.set t (tell f (acc s.m (ask f)).2.1 (acc s.m (ask f)).2.2), s.call.set t (-1), s.at_, s.steps ++ [⟨t, ask f, (acc s.m (ask f)).2.1, (acc s.m (ask f)).2.2⟩], s.calls.set k (endK x s.steps.length (tell f (acc s.m (ask f)).2.1 (acc s.m (ask f)).2.2))⟩ := by
 have e1 : s.on.getD t FS.none = f := by rw [List.getD_eq_getElem?_getD, hf]; rfl
 have e2 : s.call.getD t 0 = (k : Int) := by rw [List.getD_eq_getElem?_getD, hk]; rfl
 have e3 : s.calls.getD k ⟨0, 0, 0, 0, 0, 0, 0⟩ = x := by rw [List.getD_eq_getElem?_getD, hx]; rfl
 unfold goR
 simp only [e1, e2, Int.toNat_natCast, e3, hp, if_true]
theorem goR_no {ask : FS -> Acc} {tell : FS -> Int -> Bool -> FS} {s : RS} {t : Nat} {f : FS} (hf : s.on[t]? = some f) (hp : ¬ (tell f (acc s.m (ask f)).2.1 (acc s.m (ask f)).2.2).pc = 0) :
   goR ask tell s t = ⟨(acc s.m (ask f)).1, s.on.set t (tell f (acc s.m (ask f)).2.1 (acc s.m (ask f)).2.2), s.call, s.at_, s.steps ++ [⟨t, ask f, (acc s.m (ask f)).2.1, (acc s.m (ask f)).2.2⟩], s.calls⟩ := by
 have e1 : s.on.getD t FS.none = f := by rw [List.getD_eq_getElem?_getD, hf]; rfl
 unfold goR
 simp only [e1, hp, if_false]
theorem step_cell : (Tryz.prog.info? 68).map (fun i => (i.zero, i.size, i.bytes)) = some (some (.agg #[.int .i64 0, .int .i64 0, .int .i64 0, .int .i64 0, .int .u64 0, .int .u64 0, .int .u64 0, .bool false]), 8, 64) := by kernel_rfl
theorem call_cell : (Tryz.prog.info? 50).map (fun i => (i.zero, i.size, i.bytes)) = some (some (.agg #[.int .i64 0, .int .i64 0, .int .u32 0, .int .i64 0, .int .i64 0, .int .i64 0, .int .u32 0]), 7, 56) := by kernel_rfl
theorem few_acc {m : Memc.M} {c : Acc} (h : Few m) : Few (acc m c).1 := fun a h1 h2 => by rw [len_acc]; exact h a h1 h2
set_option maxHeartbeats 8000000 in
theorem step_c (w : World) (base gR gO gC gA co cc ca : Nat) (k : Int) (K T M : Nat) (r : R) (sS sK : Sl) (cO cC cA : Array Value) (qs : List Sl) (s s1 : RS) (ask : FS -> Acc) (tell : FS -> Int -> Bool -> FS) (t : Nat) (next : FS) (nq : Sl) (kd vl : Int) (is : Bool) (f : FS)
   (h : Ir w base gR gO gC gA co cc ca k K T M r sS sK cO cC cA qs s) (ht : t < T) (hs1 : (0 <= s.call.getD t 0 /\ s1 = s) \/ (s.call.getD t 0 < 0 /\ is = true /\ s1 = begR s t next kd vl)) (hf : s1.on[t]? = some f) (hq : Rd w w.heap.size nq next.seen /\ ∀ b, Mine gR gO gC gA sS sK b -> OffQ nq b)
   (hAsk : ∀ (W : World) (q : Sl), Rd W W.heap.size q f.seen -> Calls Tryz.prog 59 #[.agg #[.int .i64 k, .int .i64 K, .int .i64 T, .int .i64 M], .agg (f.v q).toArray] W fun e W' => e = .returned (.agg #[.int .i64 (ask f).d, .int .i64 (ask f).ar, .int .i64 (ask f).at_, .int .u64 (ask f).old, .int .u64 (ask f).new]) /\ Below W.heap.size W W') (hok : (ask f).ok)
   (hTell : ∀ (W : World) (q : Sl) (was : Int) (dn : Bool), was = (acc s1.m (ask f)).2.1 -> dn = (acc s1.m (ask f)).2.2 -> Rd W W.heap.size q f.seen -> Calls Tryz.prog 61 #[.agg #[.int .i64 k, .int .i64 K, .int .i64 T, .int .i64 M], .agg (f.v q).toArray, .int .u64 was, .bool dn] W fun e W' => ∃ q' : Sl, e = .returned (.agg (((tell f was dn)).v q').toArray) /\ Rd W' W'.heap.size q' (tell f was dn).seen /\ Below W.heap.size W W' /\ ∀ b, b < W.heap.size -> OffQ q b -> OffQ q' b)
   (hcall : ∃ k0 : Nat, s1.call[t]? = some (k0 : Int) /\ k0 < s1.calls.length) (hat : ∃ a0 : Nat, s.at_[t]? = some (a0 : Int) /\ a0 <= 100000) (hcap : s1.steps.length <= 40000 /\ s1.calls.length <= 40000) :
   Calls Tryz.prog 47 #[.pointer (some ⟨gR, 0, none⟩), .int .i64 t, .agg (next.v nq).toArray, .int .i64 kd, .int .u32 vl, .bool is] w fun e w' => (∃ r' sS' sK' cO' cC' cA' qs', Ir w' base gR gO gC gA co cc ca k K T M r' sS' sK' cO' cC' cA' qs' (goR ask tell s1 t)) /\ e = .returned (.bool true) /\ Below base w w' := by
 have hAsk := lh hAsk
 have hTell := lh hTell
 have HI := lh h
 have HS1 := lh hs1
 have HF0 := lh hf
 have HQ := lh hq
 have HOK := lh hok
 have HCAP := lh hcap
 have HCALL := lh hcall
 have HAT := lh hat
 clear h hs1 hf hq hok hcap hcall hat
 obtain ⟨c0, hc0⟩ : ∃ c0, s.call[t]? = some c0 := ⟨_, List.getElem?_eq_getElem (by have h1 := HI.out.len.2.1; omega)⟩
 have HC0 := lh hc0
 have hr0 := HI.out.hR.cell
 have hr0l := HI.out.hR.lt
 have hcc := (HI.out.hC.cell t).trans (HI.out.call t c0 hc0)
 have hccl := HI.out.hC.lt
 have t0 : (0 : Int) <= t := Int.natCast_nonneg _
 have t1 : (t : Int) < T := Int.ofNat_lt.2 ht
 clear hc0
 go_enter Tryz.func47, Tryz.ntmps47
 go_upto_if 26 with fail
 go_cut [] (fun wx => (∃ r1 sS1 sK1 cO1 cC1 cA1 qs1, Ir wx base gR gO gC gA co cc ca k K T M r1 sS1 sK1 cO1 cC1 cA1 qs1 s1) /\ Below base w wx)
 case first =>
   rcases HS1.out with ⟨hge, hs⟩ | ⟨hlt, his, hs⟩
   · have hc0n : ¬ c0 < 0 := by rw [List.getD_eq_getElem?_getD, HC0.out] at hge; exact Int.not_lt.2 hge
     have I00 : Hid (Ir (w.alloc (.cells (next.v nq).toArray 107)) base gR gO gC gA co cc ca k K T M r sS sK cO cC cA qs s1) := lh (by rw [hs]; exact HI.out.below ((Below.refl _ _).alloc (Nat.le_refl _) _))
     have HW00 : Hid (Below base w (w.alloc (.cells (next.v nq).toArray 107))) := lh ((Below.refl _ _).alloc HI.out.low.1 _)
     clear hge hs
     go_wp2_with fail
     go_meet
     exact ⟨⟨_, _, _, _, _, _, _, I00.out⟩, HW00.out⟩
   · have hc0p : c0 < 0 := by rw [List.getD_eq_getElem?_getD, HC0.out] at hlt; exact hlt
     subst his
     obtain ⟨a0, ha0, hal⟩ := HAT.out
     have HA0 := lh ha0
     have HS := lh hs
     have hac := (HI.out.hA.cell t).trans (HI.out.at_ t a0 ha0)
     have hacl := HI.out.hA.lt
     have hacf := HI.out.hA.frozen
     have hwr : wrap64 ((a0 : Int) + 1) = (a0 : Int) + 1 := by unfold wrap64; omega
     clear hs hlt ha0
     go_upto_region 5 with fail
     have OA : Only (fun g => g = gA) w (w.setCell ⟨gA, t, none⟩ (.int .i64 ((a0 : Int) + 1))) := Only.set_ (Only.refl (fun g => g = gA) _) ⟨gA, t, none⟩ (.inl rfl) _
     have IA0 := Ir.atd (x := (a0 : Int) + 1) HI.out ht OA (HI.out.hA.set_ t _)
     have IA : Hid (Ir ((w.setCell ⟨gA, t, none⟩ (.int .i64 ((a0 : Int) + 1))).alloc (.cells (next.v nq).toArray 107)) base gR gO gC gA co cc ca k K T M r sS sK cO cC (cA.setIfInBounds t (.int .i64 ((a0 : Int) + 1))) qs { s with at_ := s.at_.set t ((a0 : Int) + 1) }) := lh (IA0.below ((Below.refl _ _).alloc (Nat.le_refl _) (.cells (next.v nq).toArray 107)))
     have BA : Hid (Blk ((w.setCell ⟨gA, t, none⟩ (.int .i64 ((a0 : Int) + 1))).alloc (.cells (next.v nq).toArray 107)) w.heap.size 107 (next.v nq).toArray) := lh (blk_at (by simp [World.setCell]))
     have WA : Hid (Below base w ((w.setCell ⟨gA, t, none⟩ (.int .i64 ((a0 : Int) + 1))).alloc (.cells (next.v nq).toArray 107))) := lh ((OA.below HI.out.low.1 (fun g hg => by rw [hg]; exact HI.out.low.2.2.2.2)).alloc IA0.low.1 (.cells (next.v nq).toArray 107))
     have QA : Hid (Rd ((w.setCell ⟨gA, t, none⟩ (.int .i64 ((a0 : Int) + 1))).alloc (.cells (next.v nq).toArray 107)) ((w.setCell ⟨gA, t, none⟩ (.int .i64 ((a0 : Int) + 1))).alloc (.cells (next.v nq).toArray 107)).heap.size nq next.seen) := lh (((Rd.only HQ.out.1 OA (Nat.le_refl _) (fun ad hn ha hp => HQ.out.2 _ (.inr (.inr (.inr (.inl hp)))) ad hn ha rfl)).below ((Below.refl _ _).alloc (Nat.le_refl _) (.cells (next.v nq).toArray 107))).more ((Below.refl _ _).alloc (Nat.le_refl _) (.cells (next.v nq).toArray 107)).size)
     clear OA IA0 hac hacl hacf hwr hr0 hr0l hcc hccl
     generalize ((w.setCell ⟨gA, t, none⟩ (.int .i64 ((a0 : Int) + 1))).alloc (.cells (next.v nq).toArray 107)) = Va at IA BA WA QA ⊢
     have HSZ0 : Hid (t * 24 + 24 <= cO.size) := lh (by have := HI.out.len.2.2.2.2; omega)
     have RNG : Hid (Va.drew.rangeAt w.heap.size 0 (next.v nq)) := lh (fun j v hj => (BA.out.drew.cell (0 + j)).trans (by rw [Nat.zero_add]; simpa using hj))
     refine Zreg.begin_ (S := (fun w' => (∀ j, w'.cell? ⟨gR, j, none⟩ = (#[.int .i64 k, .int .i64 K, .int .i64 T, .int .i64 M, .int .u64 r.e, .int .u64 r.f, .slice r.L.A r.L.n r.L.c, .slice r.P.A r.P.n r.P.c, .int .u64 r.h, .int .u64 r.t, .slice r.K.A r.K.n r.K.c, .slice r.X.A r.X.n r.X.c, .slice r.S.A r.S.n r.S.c, .slice (some ⟨gO, 0, none⟩) T co, .slice (some ⟨gC, 0, none⟩) T cc, .slice (some ⟨gA, 0, none⟩) T ca, .slice sS.A sS.n sS.c, .slice sK.A sK.n sK.c, .int .u64 0, .int .u64 0, .slice none 0 0, .slice none 0 0, .int .u64 0, .int .u64 0, .slice none 0 0, .slice none 0 0, .slice none 0 0] : Array Value)[j]?) /\ w'.rangeAt w.heap.size 0 (next.v nq))) (zs := [7]) (by kernel_rfl) ?_
     show Zreg.After _ _ _ _ _ _ 8 #[false, false, false, false, false, false, false, false] _ _
     refine Zreg.tP 0 38 (x := ?xu_0) rfl rfl (by kernel_rfl) (fun _ _ _ h => h) (.inr ⟨IA.out.hR.drew.cell, RNG.out⟩) (Or.inl ⟨by rfl, ?yu_0⟩) ?ru_0
     case yu_0 => (intro w _; go_simp <;> with_reducible rfl)
     simp only [sA, sZ, sC]
     refine Zreg.tP 1 39 (x := ?xu_1) rfl rfl (by kernel_rfl) (fun _ _ _ h => h) (.inr ⟨IA.out.hR.drew.cell, RNG.out⟩) (Or.inl ⟨by rfl, ?yu_1⟩) ?ru_1
     case yu_1 => (intro w _; go_simp <;> with_reducible rfl)
     simp only [sA, sZ, sC]
     refine Zreg.tP 2 40 (x := ?xu_2) rfl rfl (by kernel_rfl) (fun _ _ _ h => h) (.inr ⟨IA.out.hR.drew.cell, RNG.out⟩) (Or.inl ⟨by rfl, ?yu_2⟩) ?ru_2
     case yu_2 => (intro w _; go_simp <;> with_reducible rfl)
     simp only [sA, sZ, sC]
     refine Zreg.tS 3 41 (x := ?xu_3) rfl rfl (by kernel_rfl) (fun _ _ _ h => h) (.inr ⟨IA.out.hR.drew.cell, RNG.out⟩) (Or.inl ⟨by rfl, ?yu_3⟩) ?ru_3
     case yu_3 => (intro w hSw; (try dsimp only at hSw); go_simp <;> with_reducible rfl)
     simp only [sA, sZ, sC]
     refine Zreg.tP 4 42 (x := ?xu_4) rfl rfl (by kernel_rfl) (fun _ _ _ h => h) (.inr ⟨IA.out.hR.drew.cell, RNG.out⟩) (Or.inl ⟨by rfl, ?yu_4⟩) ?ru_4
     case yu_4 => (intro w _; go_simp <;> with_reducible rfl)
     simp only [sA, sZ, sC]
     refine Zreg.takeS 5 43 (x := .agg (next.v nq).toArray) rfl rfl (by kernel_rfl) (by kernel_rfl) (by kernel_rfl) (by kernel_rfl) (by kernel_rfl) (by kernel_rfl) (fun _ _ _ h => h) (.inr ⟨IA.out.hR.drew.cell, RNG.out⟩) (yieldsIf_load_mid (by rfl) 107 (.tmp 8) rfl w.heap.size 0 (by simp [Act.eval]) (next.v nq) _ (fun _ h => h.2) Tryz.underlying107 rfl f_size) ?ru_5
     simp only [sA, sZ, sC]
     refine Zreg.tP 6 44 (x := ?xu_6) rfl rfl (by kernel_rfl) (fun _ _ _ h => h) (.inr ⟨IA.out.hR.drew.cell, RNG.out⟩) (Or.inl ⟨by rfl, ?yu_6⟩) ?ru_6
     case yu_6 => (intro w _; go_simp <;> with_reducible rfl)
     simp only [sA, sZ, sC]
     refine Zreg.one 7 (by kernel_rfl) rfl rfl fun K_ hK => ?_
     refine wp_store_mid 107 (.tmp 44) (.tmp 43) rfl gO (t * 24) (next.v nq).toArray (by simp [Act.eval]) (by simp [Act.eval]) (there24 IA.out.hO.drew HSZ0.out) f_size (FS.one _ _) ?_
     refine hK.out _ _ (.inl (by kernel_rfl)) fun _ => ?_
     clear hK
     try simp only [Act.put, List.setIfInBounds_toArray, List.set_cons_zero, List.set_cons_succ]
     refine Zreg.done (by kernel_rfl) ?_ _
     simp only [List.getElem_toArray, List.getElem_cons_succ, List.getElem_cons_zero]
     have OB : Only (fun g => g = gO) Va (Va.drew.setCells gO (t * 24) (next.v nq)) := Only.sets (P := fun g => g = gO) (.inl rfl) _ _ _ ((Only.refl _ Va).drew)
     have IB : Hid (Ir (Va.drew.setCells gO (t * 24) (next.v nq)) base gR gO gC gA co cc ca k K T M r sS sK (setsA cO (t * 24) (next.v nq)) cC (cA.setIfInBounds t (.int .i64 ((a0 : Int) + 1))) (qs.set t nq) { s with at_ := s.at_.set t ((a0 : Int) + 1), on := s.on.set t next }) := lh (Ir.ond (f := next) (q := nq) IA.out ht OB (Blk.sets _ _ _ _ IA.out.hO.drew) QA.out HQ.out.2)
     have WB := lh (WA.out.trans (OB.below IA.out.low.1 (fun g hg => by rw [hg]; exact IA.out.low.2.2.1)))
     clear OB IA BA WA QA RNG
     generalize (Va.drew.setCells gO (t * 24) (next.v nq)) = Vb at IB WB ⊢
     have hcb := (IB.out.hC.cell t).trans (IB.out.call t c0 HC0.out)
     have hcbf := IB.out.hC.frozen
     go_wp2_with fail
     refine Zreg.begin_ (S := (fun w' => ∀ j, w'.cell? ⟨gR, j, none⟩ = (#[.int .i64 k, .int .i64 K, .int .i64 T, .int .i64 M, .int .u64 r.e, .int .u64 r.f, .slice r.L.A r.L.n r.L.c, .slice r.P.A r.P.n r.P.c, .int .u64 r.h, .int .u64 r.t, .slice r.K.A r.K.n r.K.c, .slice r.X.A r.X.n r.X.c, .slice r.S.A r.S.n r.S.c, .slice (some ⟨gO, 0, none⟩) T co, .slice (some ⟨gC, 0, none⟩) T cc, .slice (some ⟨gA, 0, none⟩) T ca, .slice sS.A sS.n sS.c, .slice sK.A sK.n sK.c, .int .u64 0, .int .u64 0, .slice none 0 0, .slice none 0 0, .int .u64 0, .int .u64 0, .slice none 0 0, .slice none 0 0, .slice none 0 0] : Array Value)[j]?)) (zs := [12]) (by kernel_rfl) ?_
     show Zreg.After _ _ _ _ _ _ 13 #[false, false, false, false, false, false, false, false, false, false, false, false, false] _ _
     refine Zreg.tP 0 45 (x := ?xv_0) rfl rfl (by kernel_rfl) (fun _ _ _ h => h) (.inr IB.out.hR.drew.cell) (Or.inl ⟨by rfl, ?yv_0⟩) ?rv_0
     case yv_0 => (intro w _; go_simp <;> with_reducible rfl)
     simp only [sA, sZ, sC]
     refine Zreg.tP 1 46 (x := ?xv_1) rfl rfl (by kernel_rfl) (fun _ _ _ h => h) (.inr IB.out.hR.drew.cell) (Or.inl ⟨by rfl, ?yv_1⟩) ?rv_1
     case yv_1 => (intro w _; go_simp <;> with_reducible rfl)
     simp only [sA, sZ, sC]
     refine Zreg.tP 2 47 (x := ?xv_2) rfl rfl (by kernel_rfl) (fun _ _ _ h => h) (.inr IB.out.hR.drew.cell) (Or.inl ⟨by rfl, ?yv_2⟩) ?rv_2
     case yv_2 => (intro w _; go_simp <;> with_reducible rfl)
     simp only [sA, sZ, sC]
     refine Zreg.tS 3 48 (x := ?xv_3) rfl rfl (by kernel_rfl) (fun _ _ _ h => h) (.inr IB.out.hR.drew.cell) (Or.inl ⟨by rfl, ?yv_3⟩) ?rv_3
     case yv_3 => (intro w hSw; (try dsimp only at hSw); go_simp <;> with_reducible rfl)
     simp only [sA, sZ, sC]
     refine Zreg.tP 4 49 (x := ?xv_4) rfl rfl (by kernel_rfl) (fun _ _ _ h => h) (.inr IB.out.hR.drew.cell) (Or.inl ⟨by rfl, ?yv_4⟩) ?rv_4
     case yv_4 => (intro w _; go_simp <;> with_reducible rfl)
     simp only [sA, sZ, sC]
     refine Zreg.tP 5 50 (x := ?xv_5) rfl rfl (by kernel_rfl) (fun _ _ _ h => h) (.inr IB.out.hR.drew.cell) (Or.inl ⟨by rfl, ?yv_5⟩) ?rv_5
     case yv_5 => (intro w _; go_simp <;> with_reducible rfl)
     simp only [sA, sZ, sC]
     refine Zreg.tP 6 51 (x := ?xv_6) rfl rfl (by kernel_rfl) (fun _ _ _ h => h) (.inr IB.out.hR.drew.cell) (Or.inl ⟨by rfl, ?yv_6⟩) ?rv_6
     case yv_6 => (intro w _; go_simp <;> with_reducible rfl)
     simp only [sA, sZ, sC]
     refine Zreg.tP 7 52 (x := ?xv_7) rfl rfl (by kernel_rfl) (fun _ _ _ h => h) (.inr IB.out.hR.drew.cell) (Or.inl ⟨by rfl, ?yv_7⟩) ?rv_7
     case yv_7 => (intro w _; go_simp <;> with_reducible rfl)
     simp only [sA, sZ, sC]
     refine Zreg.tP 8 53 (x := ?xv_8) rfl rfl (by kernel_rfl) (fun _ _ _ h => h) (.inr IB.out.hR.drew.cell) (Or.inl ⟨by rfl, ?yv_8⟩) ?rv_8
     case yv_8 => (intro w _; go_simp <;> with_reducible rfl)
     simp only [sA, sZ, sC]
     refine Zreg.tS 9 54 (x := ?xv_9) rfl rfl (by kernel_rfl) (fun _ _ _ h => h) (.inr IB.out.hR.drew.cell) (Or.inl ⟨by rfl, ?yv_9⟩) ?rv_9
     case yv_9 => (intro w hSw; (try dsimp only at hSw); go_simp <;> with_reducible rfl)
     simp only [sA, sZ, sC]
     refine Zreg.tP 10 55 (x := ?xv_10) rfl rfl (by kernel_rfl) (fun _ _ _ h => h) (.inr IB.out.hR.drew.cell) (Or.inl ⟨by rfl, ?yv_10⟩) ?rv_10
     case yv_10 => (intro w _; go_simp <;> with_reducible rfl)
     simp only [sA, sZ, sC]
     refine Zreg.tP 11 56 (x := ?xv_11) rfl rfl (by kernel_rfl) (fun _ _ _ h => h) (.inr IB.out.hR.drew.cell) (Or.inl ⟨by rfl, ?yv_11⟩) ?rv_11
     case yv_11 => (intro w _; go_simp <;> with_reducible rfl)
     simp only [sA, sZ, sC]
     refine Zreg.one 12 (by kernel_rfl) rfl rfl fun K_ hK => ?_
     go_simp
     refine hK.out _ _ (.inl (by kernel_rfl)) fun _ => ?_
     clear hK
     simp only [sA, sZ, sC]
     refine Zreg.done (by kernel_rfl) ?_ _
     have OC : Only (fun g => g = gC) Vb (Vb.setCell ⟨gC, t, none⟩ (.int .i64 (sK.n : Int))).drew := (Only.set_ (Only.refl (fun g => g = gC) Vb) ⟨gC, t, none⟩ (.inl rfl) _).drew
     have IC : Hid (Ir (Vb.setCell ⟨gC, t, none⟩ (.int .i64 (sK.n : Int))).drew base gR gO gC gA co cc ca k K T M r sS sK (setsA cO (t * 24) (next.v nq)) (cC.setIfInBounds t (.int .i64 (sK.n : Int))) (cA.setIfInBounds t (.int .i64 ((a0 : Int) + 1))) (qs.set t nq) { s with at_ := s.at_.set t ((a0 : Int) + 1), on := s.on.set t next, call := s.call.set t (sK.n : Int) }) := lh (Ir.calld (x := (sK.n : Int)) IB.out ht OC (IB.out.hC.set_ t _).drew)
     have WC := lh (WB.out.trans (OC.below IB.out.low.1 (fun g hg => by rw [hg]; exact IB.out.low.2.2.2.1)))
     clear OC IB WB hcb hcbf
     generalize (Vb.setCell ⟨gC, t, none⟩ (.int .i64 (sK.n : Int))).drew = Vc at IC WC ⊢
     have hrc := IC.out.hR.cell
     obtain ⟨j0, hj0, hjz0, hjz1, hjz2⟩ := info_parts call_cell
     have SR := lh (And.intro hj0 (And.intro hjz0 (And.intro hjz1 hjz2)))
     clear hj0 hjz0 hjz1 hjz2
     go_wp2_with fail
     refine Zreg.begin_ (S := (fun w' => ∀ j, w'.cell? ⟨gR, j, none⟩ = (#[.int .i64 k, .int .i64 K, .int .i64 T, .int .i64 M, .int .u64 r.e, .int .u64 r.f, .slice r.L.A r.L.n r.L.c, .slice r.P.A r.P.n r.P.c, .int .u64 r.h, .int .u64 r.t, .slice r.K.A r.K.n r.K.c, .slice r.X.A r.X.n r.X.c, .slice r.S.A r.S.n r.S.c, .slice (some ⟨gO, 0, none⟩) T co, .slice (some ⟨gC, 0, none⟩) T cc, .slice (some ⟨gA, 0, none⟩) T ca, .slice sS.A sS.n sS.c, .slice sK.A sK.n sK.c, .int .u64 0, .int .u64 0, .slice none 0 0, .slice none 0 0, .int .u64 0, .int .u64 0, .slice none 0 0, .slice none 0 0, .slice none 0 0] : Array Value)[j]?)) (zs := [21]) (by kernel_rfl) ?_
     show Zreg.After _ _ _ _ _ _ 22 #[false, false, false, false, false, false, false, false, false, false, false, false, false, false, false, false, false, false, false, false, false, false] _ _
     refine Zreg.tP 0 57 (x := ?xx_0) rfl rfl (by kernel_rfl) (fun _ _ _ h => h) (.inr IC.out.hR.drew.cell) (Or.inl ⟨by rfl, ?yx_0⟩) ?rx_0
     case yx_0 => (intro w _; go_simp <;> with_reducible rfl)
     simp only [sA, sZ, sC]
     refine Zreg.tP 1 58 (x := ?xx_1) rfl rfl (by kernel_rfl) (fun _ _ _ h => h) (.inr IC.out.hR.drew.cell) (Or.inl ⟨by rfl, ?yx_1⟩) ?rx_1
     case yx_1 => (intro w _; go_simp <;> with_reducible rfl)
     simp only [sA, sZ, sC]
     refine Zreg.tP 2 59 (x := ?xx_2) rfl rfl (by kernel_rfl) (fun _ _ _ h => h) (.inr IC.out.hR.drew.cell) (Or.inl ⟨by rfl, ?yx_2⟩) ?rx_2
     case yx_2 => (intro w _; go_simp <;> with_reducible rfl)
     simp only [sA, sZ, sC]
     refine Zreg.tP 3 60 (x := ?xx_3) rfl rfl (by kernel_rfl) (fun _ _ _ h => h) (.inr IC.out.hR.drew.cell) (Or.inl ⟨by rfl, ?yx_3⟩) ?rx_3
     case yx_3 => (intro w _; go_simp <;> with_reducible rfl)
     simp only [sA, sZ, sC]
     refine Zreg.tP 4 61 (x := ?xx_4) rfl rfl (by kernel_rfl) (fun _ _ _ h => h) (.inr IC.out.hR.drew.cell) (Or.inl ⟨by rfl, ?yx_4⟩) ?rx_4
     case yx_4 => (intro w _; go_simp <;> with_reducible rfl)
     simp only [sA, sZ, sC]
     refine Zreg.tS 5 62 (x := ?xx_5) rfl rfl (by kernel_rfl) (fun _ _ _ h => h) (.inr IC.out.hR.drew.cell) (Or.inl ⟨by rfl, ?yx_5⟩) ?rx_5
     case yx_5 => (intro w hSw; (try dsimp only at hSw); go_simp <;> with_reducible rfl)
     simp only [sA, sZ, sC]
     refine Zreg.tP 6 63 (x := ?xx_6) rfl rfl (by kernel_rfl) (fun _ _ _ h => h) (.inr IC.out.hR.drew.cell) (Or.inl ⟨by rfl, ?yx_6⟩) ?rx_6
     case yx_6 => (intro w _; go_simp <;> with_reducible rfl)
     simp only [sA, sZ, sC]
     refine Zreg.tP 7 64 (x := ?xx_7) rfl rfl (by kernel_rfl) (fun _ _ _ h => h) (.inr IC.out.hR.drew.cell) (Or.inl ⟨by rfl, ?yx_7⟩) ?rx_7
     case yx_7 => (intro w _; go_simp <;> with_reducible rfl)
     simp only [sA, sZ, sC]
     refine Zreg.tP 8 65 (x := ?xx_8) rfl rfl (by kernel_rfl) (fun _ _ _ h => h) (.inr IC.out.hR.drew.cell) (Or.inl ⟨by rfl, ?yx_8⟩) ?rx_8
     case yx_8 => (intro w _; go_simp <;> with_reducible rfl)
     simp only [sA, sZ, sC]
     refine Zreg.tP 9 66 (x := ?xx_9) rfl rfl (by kernel_rfl) (fun _ _ _ h => h) (.inr IC.out.hR.drew.cell) (Or.inl ⟨by rfl, ?yx_9⟩) ?rx_9
     case yx_9 => (intro w _; go_simp <;> with_reducible rfl)
     simp only [sA, sZ, sC]
     refine Zreg.tP 10 67 (x := ?xx_10) rfl rfl (by kernel_rfl) (fun _ _ _ h => h) (.inr IC.out.hR.drew.cell) (Or.inl ⟨by rfl, ?yx_10⟩) ?rx_10
     case yx_10 => (intro w _; go_simp <;> with_reducible rfl)
     simp only [sA, sZ, sC]
     refine Zreg.tP 11 68 (x := ?xx_11) rfl rfl (by kernel_rfl) (fun _ _ _ h => h) (.inr IC.out.hR.drew.cell) (Or.inl ⟨by rfl, ?yx_11⟩) ?rx_11
     case yx_11 => (intro w _; go_simp <;> with_reducible rfl)
     simp only [sA, sZ, sC]
     refine Zreg.tP 12 69 (x := ?xx_12) rfl rfl (by kernel_rfl) (fun _ _ _ h => h) (.inr IC.out.hR.drew.cell) (Or.inl ⟨by rfl, ?yx_12⟩) ?rx_12
     case yx_12 => (intro w _; go_simp <;> with_reducible rfl)
     simp only [sA, sZ, sC]
     refine Zreg.tS 13 70 (x := ?xx_13) rfl rfl (by kernel_rfl) (fun _ _ _ h => h) (.inr IC.out.hR.drew.cell) (Or.inl ⟨by rfl, ?yx_13⟩) ?rx_13
     case yx_13 => (intro w hSw; (try dsimp only at hSw); go_simp <;> with_reducible rfl)
     simp only [sA, sZ, sC]
     refine Zreg.tP 14 71 (x := ?xx_14) rfl rfl (by kernel_rfl) (fun _ _ _ h => h) (.inr IC.out.hR.drew.cell) (Or.inl ⟨by rfl, ?yx_14⟩) ?rx_14
     case yx_14 => (intro w _; go_simp <;> with_reducible rfl)
     simp only [sA, sZ, sC]
     refine Zreg.tP 15 72 (x := ?xx_15) rfl rfl (by kernel_rfl) (fun _ _ _ h => h) (.inr IC.out.hR.drew.cell) (Or.inl ⟨by rfl, ?yx_15⟩) ?rx_15
     case yx_15 => (intro w _; go_simp <;> with_reducible rfl)
     simp only [sA, sZ, sC]
     refine Zreg.one 16 (by kernel_rfl) rfl rfl fun K_ hK => ?_
     go_simp
     refine hK.out _ _ (.inr (IC.out.hR.drew.alloc _).cell) fun _ => ?_
     clear hK
     simp only [sA, sZ, sC]
     refine Zreg.one 17 (by kernel_rfl) rfl rfl fun K_ hK => ?_
     refine wp_app2 (.tmp 62) (.tmp 73) 29 rfl base 50 j0 _ 7 56 Tryz.underlying29 SR.out.1 SR.out.2.1 SR.out.2.2.1 SR.out.2.2.2 rfl (by decide) sK s.calls.length (flatK s.calls) (by simp [Act.eval]) (Row.alloc IC.out.hK (.cells #[.int .i64 t, .int .i64 kd, .int .u32 vl, .int .i64 sS.n, .int .i64 (-1), .int .i64 0, .int .u32 0] 50)) Vc.heap.size [.int .i64 t, .int .i64 kd, .int .u32 vl, .int .i64 sS.n, .int .i64 (-1), .int .i64 0, .int .u32 0] (by simp [Act.eval]) rfl (fun j u hj => (Blk.cell (blk_at rfl) j).trans (by simpa using hj)) (by simp [Value.oneCell']) (Nat.lt_of_le_of_lt HI.out.few.2.2 (by decide)) (by decide) (Nat.le_trans IC.out.low.1 (by simp)) ?_
     intro k4 w7 hr7 ho7 hw7
     have R7 := lh (Blk.only (IC.out.hR.alloc (.cells #[.int .i64 t, .int .i64 kd, .int .u32 vl, .int .i64 sS.n, .int .i64 (-1), .int .i64 0, .int .u32 0] 50)).drew ho7 (fun hg => Row.ne IC.out.hK IC.out.hR (by decide) _ hg rfl))
     have A7 : Hid (Only (fun g => g = gR \/ bl sK g) Vc w7) := lh (Only.next ((Only.refl (fun g => g = gR \/ bl sK g) Vc).alloc (.cells #[.int .i64 t, .int .i64 kd, .int .u32 vl, .int .i64 sS.n, .int .i64 (-1), .int .i64 0, .int .u32 0] 50)).drew ho7 (fun k _ h => .inr h))
     have S7 := lh hr7
     have L7 : Hid (∀ g, bl k4 g -> bl sK g \/ Vc.heap.size <= g) := lh (fun g hg => (hw7 g hg).imp_right (fun e => by rw [e]; show Vc.heap.size <= (Vc.alloc (.cells #[.int .i64 t, .int .i64 kd, .int .u32 vl, .int .i64 sS.n, .int .i64 (-1), .int .i64 0, .int .u32 0] 50)).heap.size; simp))
     clear hr7 ho7 hw7 hrc
     have hc7 := R7.out.cell
     have hf7 := R7.out.frozen
     refine hK.out _ _ (.inr R7.out.cell) fun _ => ?_
     clear hK
     try simp only [Act.put, List.setIfInBounds_toArray, List.set_cons_zero, List.set_cons_succ]
     refine Zreg.tP 18 75 (x := ?xx_18) rfl rfl (by kernel_rfl) (fun _ _ _ h => h) (.inr R7.out.cell) (Or.inl ⟨by rfl, ?yx_18⟩) ?rx_18
     case yx_18 => (intro w _; go_simp <;> with_reducible rfl)
     simp only [sA, sZ, sC]
     refine Zreg.tP 19 76 (x := ?xx_19) rfl rfl (by kernel_rfl) (fun _ _ _ h => h) (.inr R7.out.cell) (Or.inl ⟨by rfl, ?yx_19⟩) ?rx_19
     case yx_19 => (intro w _; go_simp <;> with_reducible rfl)
     simp only [sA, sZ, sC]
     refine Zreg.tP 20 77 (x := ?xx_20) rfl rfl (by kernel_rfl) (fun _ _ _ h => h) (.inr R7.out.cell) (Or.inl ⟨by rfl, ?yx_20⟩) ?rx_20
     case yx_20 => (intro w _; go_simp <;> with_reducible rfl)
     simp only [sA, sZ, sC]
     refine Zreg.one 21 (by kernel_rfl) rfl rfl fun K_ hK => ?_
     go_simp
     refine hK.out _ _ (.inl (by kernel_rfl)) fun _ => ?_
     clear hK
     simp only [sA, sZ, sC]
     refine Zreg.done (by kernel_rfl) ?_ _
     have OD : Only (fun g => g = gR \/ bl sK g) Vc (w7.setCell ⟨gR, 17, none⟩ (.slice k4.A k4.n k4.c)) := Only.set_ A7.out ⟨gR, 17, none⟩ (.inl (.inl rfl)) _
     have ID := Ir.callsd (sK' := k4) (x := ⟨t, kd, vl, sS.n, -1, 0, 0⟩) IC.out OD (by have h_ := Blk.set_ R7.out 17 (.slice k4.A k4.n k4.c); simpa only [sA, sZ, sC] using h_) (Row.kept S7.out (fun g hg => Below.heap_setCell _ _ _ _ (Row.ne S7.out R7.out (by decide) g hg))) L7.out (by have h1 := HCAP.out.2; rw [HS.out] at h1; simp only [begR, List.length_append, List.length_singleton] at h1; exact Nat.le_trans h1 (by decide))
     have WD := WC.out.trans (OD.below IC.out.low.1 (fun g hg => by
       rcases hg with hg | hg
       · rw [hg]; exact IC.out.low.2.1
       · exact (IC.out.hK.lt hg).1))
     have IE : Hid (Ir (w7.setCell ⟨gR, 17, none⟩ (.slice k4.A k4.n k4.c)) base gR gO gC gA co cc ca k K T M r sS k4 (setsA cO (t * 24) (next.v nq)) (cC.setIfInBounds t (.int .i64 (sK.n : Int))) (cA.setIfInBounds t (.int .i64 ((a0 : Int) + 1))) (qs.set t nq) s1) := lh (by
       have hkn : sK.n = s.calls.length := HI.out.hK.n_.1
       have hsn : sS.n = s.steps.length := HI.out.hS.n_.1
       have e2 : s.at_.getD t 0 = (a0 : Int) := by rw [List.getD_eq_getElem?_getD, HA0.out]; rfl
       rw [hkn, hsn] at ID
       rw [HS.out]
       unfold begR
       rw [e2, <- hkn]
       rw [hkn]
       exact ID)
     have WE := lh WD
     clear ID OD WD
     go_wp2_with fail
     go_meet
     exact ⟨⟨_, _, _, _, _, _, _, IE.out⟩, WE.out⟩
 case rest =>
   obtain ⟨⟨r1, sS1, sK1, cO1, cC1, cA1, qs1, hi⟩, hw⟩ := hcut
   have I0 := lh hi
   have HW := lh hw
   clear hi hw
   generalize wc = V at I0 HW ⊢
   obtain ⟨q, hq1⟩ : ∃ q, qs1[t]? = some q := ⟨_, List.getElem?_eq_getElem (by have h1 := I0.out.len.2.2.2.1; omega)⟩
   have HQ1 := lh hq1
   have SQ := lh (I0.out.seen t f q HF0.out hq1)
   have HF : Hid (∀ (j : Nat) (v : Value), (f.v q)[j]? = some v -> cO1[t * 24 + j]? = some v) := lh (I0.out.on t f q HF0.out hq1)
   have SQ8 : Hid (Rd V.drew V.drew.heap.size q f.seen) := lh SQ.out.1
   have SQ8' : Hid (Rd (V.alloc (.cells #[.int .i64 0, .int .i64 0, .int .i64 0, .int .u64 0, .int .u64 0] 66)).drew (V.alloc (.cells #[.int .i64 0, .int .i64 0, .int .i64 0, .int .u64 0, .int .u64 0] 66)).drew.heap.size q f.seen) := lh ((SQ.out.1.below ((Below.refl _ _).alloc (Nat.le_refl _) (.cells #[.int .i64 0, .int .i64 0, .int .i64 0, .int .u64 0, .int .u64 0] 66)).drew).more ((Below.refl _ _).alloc (Nat.le_refl _) (.cells #[.int .i64 0, .int .i64 0, .int .i64 0, .int .u64 0, .int .u64 0] 66)).size)
   clear hq1 hr0 hr0l hcc hccl
   go_upto_region 8 with fail
   go_cut [13] (fun x wx => ∃ gX : Nat, x = .pointer (some ⟨gX, 0, none⟩) /\ Blk wx gX 66 #[.int .i64 (ask f).d, .int .i64 (ask f).ar, .int .i64 (ask f).at_, .int .u64 (ask f).old, .int .u64 (ask f).new] /\ Below V.heap.size V wx)
   case first =>
     refine Zreg.begin_ (S := (fun w' => (∀ j, w'.cell? ⟨gR, j, none⟩ = (#[.int .i64 k, .int .i64 K, .int .i64 T, .int .i64 M, .int .u64 r1.e, .int .u64 r1.f, .slice r1.L.A r1.L.n r1.L.c, .slice r1.P.A r1.P.n r1.P.c, .int .u64 r1.h, .int .u64 r1.t, .slice r1.K.A r1.K.n r1.K.c, .slice r1.X.A r1.X.n r1.X.c, .slice r1.S.A r1.S.n r1.S.c, .slice (some ⟨gO, 0, none⟩) T co, .slice (some ⟨gC, 0, none⟩) T cc, .slice (some ⟨gA, 0, none⟩) T ca, .slice sS1.A sS1.n sS1.c, .slice sK1.A sK1.n sK1.c, .int .u64 0, .int .u64 0, .slice none 0 0, .slice none 0 0, .int .u64 0, .int .u64 0, .slice none 0 0, .slice none 0 0, .slice none 0 0] : Array Value)[j]?) /\ w'.rangeAt gO (t * 24) (f.v q))) (zs := [13]) (by kernel_rfl) ?_
     show Zreg.After _ _ _ _ _ _ 14 #[false, false, false, false, false, false, false, false, false, false, false, false, false, false] _ _
     refine Zreg.tP 0 78 (x := ?xe_0) rfl rfl (by kernel_rfl) (fun _ _ _ h => h) (.inr ⟨(I0.out.hR.drew).cell, range24 (I0.out.hO.drew) HF.out⟩) (Or.inl ⟨by rfl, ?ye_0⟩) ?re_0
     case ye_0 => (intro w _; go_simp <;> with_reducible rfl)
     simp only [sA, sZ, sC]
     refine Zreg.tP 1 79 (x := ?xe_1) rfl rfl (by kernel_rfl) (fun _ _ _ h => h) (.inr ⟨(I0.out.hR.drew).cell, range24 (I0.out.hO.drew) HF.out⟩) (Or.inl ⟨by rfl, ?ye_1⟩) ?re_1
     case ye_1 => (intro w _; go_simp <;> with_reducible rfl)
     simp only [sA, sZ, sC]
     refine Zreg.tP 2 80 (x := ?xe_2) rfl rfl (by kernel_rfl) (fun _ _ _ h => h) (.inr ⟨(I0.out.hR.drew).cell, range24 (I0.out.hO.drew) HF.out⟩) (Or.inl ⟨by rfl, ?ye_2⟩) ?re_2
     case ye_2 => (intro w _; go_simp <;> with_reducible rfl)
     simp only [sA, sZ, sC]
     refine Zreg.tS 3 81 (x := ?xe_3) rfl rfl (by kernel_rfl) (fun _ _ _ h => h) (.inr ⟨(I0.out.hR.drew).cell, range24 (I0.out.hO.drew) HF.out⟩) (Or.inl ⟨by rfl, ?ye_3⟩) ?re_3
     case ye_3 => (intro w hSw; (try dsimp only at hSw); go_simp <;> with_reducible rfl)
     simp only [sA, sZ, sC]
     refine Zreg.tP 4 82 (x := ?xe_4) rfl rfl (by kernel_rfl) (fun _ _ _ h => h) (.inr ⟨(I0.out.hR.drew).cell, range24 (I0.out.hO.drew) HF.out⟩) (Or.inl ⟨by rfl, ?ye_4⟩) ?re_4
     case ye_4 => (intro w _; go_simp <;> with_reducible rfl)
     simp only [sA, sZ, sC]
     refine Zreg.tP 5 83 (x := ?xe_5) rfl rfl (by kernel_rfl) (fun _ _ _ h => h) (.inr ⟨(I0.out.hR.drew).cell, range24 (I0.out.hO.drew) HF.out⟩) (Or.inl ⟨by rfl, ?ye_5⟩) ?re_5
     case ye_5 => (intro w _; go_simp <;> with_reducible rfl)
     simp only [sA, sZ, sC]
     refine Zreg.tP 6 84 (x := ?xe_6) rfl rfl (by kernel_rfl) (fun _ _ _ h => h) (.inr ⟨(I0.out.hR.drew).cell, range24 (I0.out.hO.drew) HF.out⟩) (Or.inl ⟨by rfl, ?ye_6⟩) ?re_6
     case ye_6 => (intro w _; go_simp <;> with_reducible rfl)
     simp only [sA, sZ, sC]
     refine Zreg.tS 7 85 (x := ?xe_7) rfl rfl (by kernel_rfl) (fun _ _ _ h => h) (.inr ⟨(I0.out.hR.drew).cell, range24 (I0.out.hO.drew) HF.out⟩) (Or.inl ⟨by rfl, ?ye_7⟩) ?re_7
     case ye_7 => (intro w hSw; (try dsimp only at hSw); go_simp <;> with_reducible rfl)
     simp only [sA, sZ, sC]
     refine Zreg.tP 8 86 (x := ?xe_8) rfl rfl (by kernel_rfl) (fun _ _ _ h => h) (.inr ⟨(I0.out.hR.drew).cell, range24 (I0.out.hO.drew) HF.out⟩) (Or.inl ⟨by rfl, ?ye_8⟩) ?re_8
     case ye_8 => (intro w _; go_simp <;> with_reducible rfl)
     simp only [sA, sZ, sC]
     refine Zreg.tP 9 87 (x := ?xe_9) rfl rfl (by kernel_rfl) (fun _ _ _ h => h) (.inr ⟨(I0.out.hR.drew).cell, range24 (I0.out.hO.drew) HF.out⟩) (Or.inl ⟨by rfl, ?ye_9⟩) ?re_9
     case ye_9 => (intro w _; go_simp <;> with_reducible rfl)
     simp only [sA, sZ, sC]
     refine Zreg.takeS 10 88 (x := .agg (f.v q).toArray) rfl rfl (by kernel_rfl) (by kernel_rfl) (by kernel_rfl) (by kernel_rfl) (by kernel_rfl) (by kernel_rfl) (fun _ _ _ h => h) (.inr ⟨(I0.out.hR.drew).cell, range24 (I0.out.hO.drew) HF.out⟩) (yieldsIf_load_mid (by rfl) 107 (.tmp 87) rfl gO (t * 24) (by simp [Act.eval]) (f.v q) _ (fun _ h => h.2) Tryz.underlying107 rfl f_size) ?re_10
     simp only [sA, sZ, sC]
     refine Zreg.two 11 12 (by kernel_rfl) rfl rfl rfl rfl (fun K_ hK => ?ce_11) (fun K_ hK => ?ce_12)
     case ce_11 =>
       go_simp
       go_at_call 59
       (with_reducible refine (hAsk.out V.drew q SQ8.out).mono ?_)
       rintro e w6 ⟨rfl, hb⟩
       have D6 : Hid (Below V.heap.size V w6) := lh ((Below.refl _ _).drew.trans hb)
       clear hb
       refine hK.out _ _ (.inr ⟨(I0.out.hR.below D6.out I0.out.hR.lt).cell, range24 (I0.out.hO.below D6.out I0.out.hO.lt) HF.out⟩) fun _ => ?_
       clear hK
       simp only [sA, sZ, sC]
       refine Zreg.one 12 (by kernel_rfl) rfl rfl fun K_ hK => ?_
       go_simp
       refine hK.out _ _ (.inr ⟨((I0.out.hR.below D6.out I0.out.hR.lt).alloc _).cell, range24 ((I0.out.hO.below D6.out I0.out.hO.lt).alloc _) HF.out⟩) fun _ => ?_
       clear hK
       simp only [sA, sZ, sC]
       refine Zreg.one 13 (by kernel_rfl) rfl rfl fun K_ hK => ?_
       go_simp
       refine hK.out _ _ (.inl (by kernel_rfl)) fun _ => ?_
       clear hK
       simp only [sA, sZ, sC]
       refine Zreg.done (by kernel_rfl) ?_ _
       go_wp2_with fail
       go_meet
       exact ⟨w6.heap.size, rfl, Blk.new _ _ _, D6.out.alloc D6.out.size _⟩
     case ce_12 =>
       go_simp
       refine hK.out _ _ (.inr ⟨(I0.out.hR.drew.alloc _).cell, range24 (I0.out.hO.drew.alloc _) HF.out⟩) fun _ => ?_
       clear hK
       simp only [sA, sZ, sC]
       refine Zreg.one 11 (by kernel_rfl) rfl rfl fun K_ hK => ?_
       go_simp
       go_at_call 59
       (with_reducible refine (hAsk.out (V.alloc (.cells #[.int .i64 0, .int .i64 0, .int .i64 0, .int .u64 0, .int .u64 0] 66)).drew q SQ8'.out).mono ?_)
       rintro e w6 ⟨rfl, hb⟩
       have D6 : Hid (Below V.heap.size V w6) := lh (((Below.refl _ _).alloc (Nat.le_refl _) (.cells #[.int .i64 0, .int .i64 0, .int .i64 0, .int .u64 0, .int .u64 0] 66)).drew.trans (hb.mono (show V.heap.size <= (V.alloc (.cells #[.int .i64 0, .int .i64 0, .int .i64 0, .int .u64 0, .int .u64 0] 66)).heap.size by simp)))
       have X6 : Hid (Blk w6 V.heap.size 66 #[.int .i64 0, .int .i64 0, .int .i64 0, .int .u64 0, .int .u64 0]) := lh ((Blk.new V 66 #[.int .i64 0, .int .i64 0, .int .i64 0, .int .u64 0, .int .u64 0]).drew.below hb (show V.heap.size < (V.alloc (.cells #[.int .i64 0, .int .i64 0, .int .i64 0, .int .u64 0, .int .u64 0] 66)).heap.size by simp))
       have hx6 := X6.out.cell
       have hf6 := X6.out.frozen
       clear hb
       refine hK.out _ _ (.inr ⟨(I0.out.hR.below D6.out I0.out.hR.lt).cell, range24 (I0.out.hO.below D6.out I0.out.hO.lt) HF.out⟩) fun _ => ?_
       clear hK
       simp only [sA, sZ, sC]
       refine Zreg.one 13 (by kernel_rfl) rfl rfl fun K_ hK => ?_
       go_simp
       refine hK.out _ _ (.inl (by kernel_rfl)) fun _ => ?_
       clear hK
       simp only [sA, sZ, sC]
       refine Zreg.done (by kernel_rfl) ?_ _
       go_wp2_with fail
       go_meet
       exact ⟨V.heap.size, rfl, blk5_set X6.out _ _ _ _ _, Only.below (Only.set5 (P := fun g => V.heap.size <= g) (Only.of_below D6.out (Nat.le_refl _)) (.inl (Nat.le_refl _)) _ _ _ _ _) (Nat.le_refl _) (fun k h => h)⟩
   case rest =>
     obtain ⟨gX, rfl, hx, hd⟩ := hcut
     have GX := lh hx
     have D1 := lh hd
     have I1 := lh (I0.out.below hd)
     have HW1 := lh (HW.out.trans (hd.mono I0.out.low.1))
     clear hx hd
     generalize wc = V1 at GX D1 I1 HW1 ⊢

     have M9 : Hid (Rm V1.drew V1.drew.heap.size r1 s1.m) := lh I1.out.hm
     have M9' : Hid (Rm (V1.alloc (.cells zM 33)).drew (V1.alloc (.cells zM 33)).drew.heap.size r1 s1.m) := lh ((I1.out.hm.below ((Below.refl _ _).alloc (Nat.le_refl _) (.cells zM 33)).drew).more ((Below.refl _ _).alloc (Nat.le_refl _) (.cells zM 33)).size)
     have FEW := lh I1.out.few.1
     go_upto_region 9 with fail
     go_cut [14, 15, 16] (fun x a b wx => ∃ (gM : Nat) (r2 : R), x = .pointer (some ⟨gM, 0, none⟩) /\ a = .int .u64 (acc s1.m (ask f)).2.1 /\ b = .bool (acc s1.m (ask f)).2.2 /\ Blk wx gM 33 #[.int .u64 r2.e, .int .u64 r2.f, .slice r2.L.A r2.L.n r2.L.c, .slice r2.P.A r2.P.n r2.P.c, .int .u64 r2.h, .int .u64 r2.t, .slice r2.K.A r2.K.n r2.K.c, .slice r2.X.A r2.X.n r2.X.c, .slice r2.S.A r2.S.n r2.S.c] /\ Rm wx wx.heap.size r2 (acc s1.m (ask f)).1 /\ Below V1.heap.size V1 wx /\ ∀ b, b < V1.heap.size -> Off r1 b -> Off r2 b)
     case first =>
       refine Zreg.begin_ (S := (fun w' => (∀ j, w'.cell? ⟨gR, j, none⟩ = (#[.int .i64 k, .int .i64 K, .int .i64 T, .int .i64 M, .int .u64 r1.e, .int .u64 r1.f, .slice r1.L.A r1.L.n r1.L.c, .slice r1.P.A r1.P.n r1.P.c, .int .u64 r1.h, .int .u64 r1.t, .slice r1.K.A r1.K.n r1.K.c, .slice r1.X.A r1.X.n r1.X.c, .slice r1.S.A r1.S.n r1.S.c, .slice (some ⟨gO, 0, none⟩) T co, .slice (some ⟨gC, 0, none⟩) T cc, .slice (some ⟨gA, 0, none⟩) T ca, .slice sS1.A sS1.n sS1.c, .slice sK1.A sK1.n sK1.c, .int .u64 0, .int .u64 0, .slice none 0 0, .slice none 0 0, .int .u64 0, .int .u64 0, .slice none 0 0, .slice none 0 0, .slice none 0 0] : Array Value)[j]?) /\ (∀ j, w'.cell? ⟨gX, j, none⟩ = (#[.int .i64 (ask f).d, .int .i64 (ask f).ar, .int .i64 (ask f).at_, .int .u64 (ask f).old, .int .u64 (ask f).new] : Array Value)[j]?))) (zs := [11]) (by kernel_rfl) ?_
       show Zreg.After _ _ _ _ _ _ 14 #[false, false, false, false, false, false, false, false, false, false, false, false, false, false] _ _
       refine Zreg.tP 0 91 (x := ?xd_0) rfl rfl (by kernel_rfl) (fun _ _ _ h => h) (.inr ⟨(I1.out.hR.drew).cell, (GX.out.drew).cell⟩) (Or.inl ⟨by rfl, ?yd_0⟩) ?rd_0
       case yd_0 => (intro w _; go_simp <;> with_reducible rfl)
       simp only [sA, sZ, sC]
       refine Zreg.tP 1 92 (x := ?xd_1) rfl rfl (by kernel_rfl) (fun _ _ _ h => h) (.inr ⟨(I1.out.hR.drew).cell, (GX.out.drew).cell⟩) (Or.inl ⟨by rfl, ?yd_1⟩) ?rd_1
       case yd_1 => (intro w _; go_simp <;> with_reducible rfl)
       simp only [sA, sZ, sC]
       refine Zreg.tP 2 93 (x := ?xd_2) rfl rfl (by kernel_rfl) (fun _ _ _ h => h) (.inr ⟨(I1.out.hR.drew).cell, (GX.out.drew).cell⟩) (Or.inl ⟨by rfl, ?yd_2⟩) ?rd_2
       case yd_2 => (intro w _; go_simp <;> with_reducible rfl)
       simp only [sA, sZ, sC]
       refine Zreg.tS 3 94 (x := ?xd_3) rfl rfl (by kernel_rfl) (fun _ _ _ h => h) (.inr ⟨(I1.out.hR.drew).cell, (GX.out.drew).cell⟩) (Or.inl ⟨by rfl, ?yd_3⟩) ?rd_3
       case yd_3 => (intro w hSw; (try dsimp only at hSw); go_simp <;> with_reducible rfl)
       simp only [sA, sZ, sC]
       refine Zreg.tS 4 95 (x := ?xd_4) rfl rfl (by kernel_rfl) (fun _ _ _ h => h) (.inr ⟨(I1.out.hR.drew).cell, (GX.out.drew).cell⟩) (Or.inl ⟨by rfl, ?yd_4⟩) ?rd_4
       case yd_4 => (intro w hSw; (try dsimp only at hSw); go_simp <;> with_reducible rfl)
       simp only [sA, sZ, sC]
       refine Zreg.two 5 10 (by kernel_rfl) rfl rfl rfl rfl (fun K_ hK => ?cd_5) (fun K_ hK => ?cd_10)
       case cd_5 =>
         go_simp
         go_at_call 60
         (with_reducible refine (refdo_c V1.drew V1.drew.heap.size r1 s1.m (ask f) M9.out (Nat.le_refl _) FEW.out HOK.out).mono ?_)
         rintro e w6 ⟨r2, rfl, hr2, hb, hoff⟩
         have D6 : Hid (Below V1.heap.size V1 w6) := lh ((Below.refl _ _).drew.trans hb)
         have R6 := lh hr2
         have O6 : Hid (∀ b, b < V1.heap.size -> Off r1 b -> Off r2 b) := lh hoff
         clear hr2 hb hoff
         refine hK.out _ _ (.inr ⟨(I1.out.hR.below D6.out I1.out.hR.lt).cell, (GX.out.below D6.out GX.out.lt).cell⟩) fun _ => ?_
         clear hK
         simp only [sA, sZ, sC]
         refine Zreg.tP 6 90 (x := ?xdA_6) rfl rfl (by kernel_rfl) (fun _ _ _ h => h) (.inr ⟨(I1.out.hR.below D6.out I1.out.hR.lt).cell, (GX.out.below D6.out GX.out.lt).cell⟩) (Or.inl ⟨by rfl, ?ydA_6⟩) ?rdA_6
         case ydA_6 => (intro w _; go_simp <;> with_reducible rfl)
         simp only [sA, sZ, sC]
         refine Zreg.tP 7 97 (x := ?xdA_7) rfl rfl (by kernel_rfl) (fun _ _ _ h => h) (.inr ⟨(I1.out.hR.below D6.out I1.out.hR.lt).cell, (GX.out.below D6.out GX.out.lt).cell⟩) (Or.inl ⟨by rfl, ?ydA_7⟩) ?rdA_7
         case ydA_7 => (intro w _; go_simp <;> with_reducible rfl)
         simp only [sA, sZ, sC]
         refine Zreg.tP 8 98 (x := ?xdA_8) rfl rfl (by kernel_rfl) (fun _ _ _ h => h) (.inr ⟨(I1.out.hR.below D6.out I1.out.hR.lt).cell, (GX.out.below D6.out GX.out.lt).cell⟩) (Or.inl ⟨by rfl, ?ydA_8⟩) ?rdA_8
         case ydA_8 => (intro w _; go_simp <;> with_reducible rfl)
         simp only [sA, sZ, sC]
         refine Zreg.tP 9 99 (x := ?xdA_9) rfl rfl (by kernel_rfl) (fun _ _ _ h => h) (.inr ⟨(I1.out.hR.below D6.out I1.out.hR.lt).cell, (GX.out.below D6.out GX.out.lt).cell⟩) (Or.inl ⟨by rfl, ?ydA_9⟩) ?rdA_9
         case ydA_9 => (intro w _; go_simp <;> with_reducible rfl)
         simp only [sA, sZ, sC]
         refine Zreg.one 10 (by kernel_rfl) rfl rfl fun K_ hK => ?_
         go_simp
         refine hK.out _ _ (.inr ⟨((I1.out.hR.below D6.out I1.out.hR.lt).alloc _).cell, ((GX.out.below D6.out GX.out.lt).alloc _).cell⟩) fun _ => ?_
         clear hK
         simp only [sA, sZ, sC]
         refine Zreg.one 11 (by kernel_rfl) rfl rfl fun K_ hK => ?_
         go_simp
         refine hK.out _ _ (.inl (by kernel_rfl)) fun _ => ?_
         clear hK
         simp only [sA, sZ, sC]
         refine Zreg.one 12 (by kernel_rfl) rfl rfl fun K_ hK => ?_
         go_simp
         refine hK.out _ _ (.inl (by kernel_rfl)) fun _ => ?_
         clear hK
         simp only [sA, sZ, sC]
         refine Zreg.one 13 (by kernel_rfl) rfl rfl fun K_ hK => ?_
         go_simp
         refine hK.out _ _ (.inl (by kernel_rfl)) fun _ => ?_
         clear hK
         simp only [sA, sZ, sC]
         refine Zreg.done (by kernel_rfl) ?_ _
         go_wp2_with fail
         go_meet
         exact ⟨w6.heap.size, r2, rfl, rfl, rfl, Blk.new _ _ _, (R6.out.alloc (Nat.le_refl _) _).more (by simp), D6.out.alloc D6.out.size _, O6.out⟩
       case cd_10 =>
         go_simp
         refine hK.out _ _ (.inr ⟨(I1.out.hR.drew.alloc _).cell, (GX.out.drew.alloc _).cell⟩) fun _ => ?_
         clear hK
         simp only [sA, sZ, sC]
         refine Zreg.one 5 (by kernel_rfl) rfl rfl fun K_ hK => ?_
         go_simp
         go_at_call 60
         (with_reducible refine (refdo_c (V1.alloc (.cells zM 33)).drew (V1.alloc (.cells zM 33)).drew.heap.size r1 s1.m (ask f) M9'.out (Nat.le_refl _) FEW.out HOK.out).mono ?_)
         rintro e w6 ⟨r2, rfl, hr2, hb, hoff⟩
         have hsz : V1.heap.size < (V1.alloc (.cells zM 33)).heap.size := by simp
         have D6 : Hid (Below V1.heap.size V1 w6) := lh (((Below.refl _ _).alloc (Nat.le_refl _) (.cells zM 33)).drew.trans (hb.mono (Nat.le_of_lt hsz)))
         have R6 := lh hr2
         have O6 : Hid (∀ b, b < V1.heap.size -> Off r1 b -> Off r2 b) := lh (fun b h1 h2 => hoff b (Nat.lt_trans h1 hsz) h2)
         have N6 : Hid (Off r2 V1.heap.size) := lh (hoff _ hsz (off_rm I1.out.hm (Nat.le_refl _)))
         have X6 : Hid (Blk w6 V1.heap.size 33 #[.int .u64 0, .int .u64 0, .slice none 0 0, .slice none 0 0, .int .u64 0, .int .u64 0, .slice none 0 0, .slice none 0 0, .slice none 0 0]) := lh ((Blk.new V1 33 #[.int .u64 0, .int .u64 0, .slice none 0 0, .slice none 0 0, .int .u64 0, .int .u64 0, .slice none 0 0, .slice none 0 0, .slice none 0 0]).drew.below hb hsz)
         have hx6 := X6.out.cell
         have hf6 := X6.out.frozen
         clear hr2 hb hoff hsz
         refine hK.out _ _ (.inr ⟨(I1.out.hR.below D6.out I1.out.hR.lt).cell, (GX.out.below D6.out GX.out.lt).cell⟩) fun _ => ?_
         clear hK
         simp only [sA, sZ, sC]
         refine Zreg.tP 6 90 (x := ?xdB_6) rfl rfl (by kernel_rfl) (fun _ _ _ h => h) (.inr ⟨(I1.out.hR.below D6.out I1.out.hR.lt).cell, (GX.out.below D6.out GX.out.lt).cell⟩) (Or.inl ⟨by rfl, ?ydB_6⟩) ?rdB_6
         case ydB_6 => (intro w _; go_simp <;> with_reducible rfl)
         simp only [sA, sZ, sC]
         refine Zreg.tP 7 97 (x := ?xdB_7) rfl rfl (by kernel_rfl) (fun _ _ _ h => h) (.inr ⟨(I1.out.hR.below D6.out I1.out.hR.lt).cell, (GX.out.below D6.out GX.out.lt).cell⟩) (Or.inl ⟨by rfl, ?ydB_7⟩) ?rdB_7
         case ydB_7 => (intro w _; go_simp <;> with_reducible rfl)
         simp only [sA, sZ, sC]
         refine Zreg.tP 8 98 (x := ?xdB_8) rfl rfl (by kernel_rfl) (fun _ _ _ h => h) (.inr ⟨(I1.out.hR.below D6.out I1.out.hR.lt).cell, (GX.out.below D6.out GX.out.lt).cell⟩) (Or.inl ⟨by rfl, ?ydB_8⟩) ?rdB_8
         case ydB_8 => (intro w _; go_simp <;> with_reducible rfl)
         simp only [sA, sZ, sC]
         refine Zreg.tP 9 99 (x := ?xdB_9) rfl rfl (by kernel_rfl) (fun _ _ _ h => h) (.inr ⟨(I1.out.hR.below D6.out I1.out.hR.lt).cell, (GX.out.below D6.out GX.out.lt).cell⟩) (Or.inl ⟨by rfl, ?ydB_9⟩) ?rdB_9
         case ydB_9 => (intro w _; go_simp <;> with_reducible rfl)
         simp only [sA, sZ, sC]
         refine Zreg.one 11 (by kernel_rfl) rfl rfl fun K_ hK => ?_
         go_simp
         refine hK.out _ _ (.inl (by kernel_rfl)) fun _ => ?_
         clear hK
         simp only [sA, sZ, sC]
         refine Zreg.one 12 (by kernel_rfl) rfl rfl fun K_ hK => ?_
         go_simp
         refine hK.out _ _ (.inl (by kernel_rfl)) fun _ => ?_
         clear hK
         simp only [sA, sZ, sC]
         refine Zreg.one 13 (by kernel_rfl) rfl rfl fun K_ hK => ?_
         go_simp
         refine hK.out _ _ (.inl (by kernel_rfl)) fun _ => ?_
         clear hK
         simp only [sA, sZ, sC]
         refine Zreg.done (by kernel_rfl) ?_ _
         go_wp2_with fail
         go_meet
         exact ⟨V1.heap.size, r2, rfl, rfl, rfl, blk_nine X6.out, (by have h_ := rm_nine R6.out N6.out r2; simpa only [size_set] using h_), below_nine D6.out (Nat.le_refl _) _ _ _ _ _ _ _ _ _, O6.out⟩
     case rest =>
       obtain ⟨gM, r2, rfl, rfl, rfl, hm2, hr2, hd2, ho2⟩ := hcut
       have GM := lh hm2
       have R2 := lh hr2
       have OF : Hid (∀ b, Mine gR gO gC gA sS1 sK1 b -> Off r2 b) := lh (fun b hb => ho2 b (Mine.lt I1.out hb).2 (I1.out.offm b hb))
       have OB : Hid (∀ b, b < base -> Off r2 b) := lh (fun b hb => ho2 b (Nat.lt_of_lt_of_le hb I1.out.low.1) (I1.out.offb b hb))
       have I2 := lh (I1.out.below hd2)
       have GX2 := lh (GX.out.below hd2 GX.out.lt)
       have HW2 := lh (HW1.out.trans (hd2.mono I1.out.low.1))
       clear hm2 hr2 hd2 ho2
       generalize wc = V2 at GM R2 I2 GX2 HW2 ⊢

       have hr2 := I2.out.hR.cell
       have hr2f := I2.out.hR.frozen
       have hm2 := GM.out.cell
       go_wp2_with fail
       have O3 : Hid (Only (fun g_ => g_ = gR) V2 (((((((((V2.setCell ⟨gR, 4, none⟩ (.int .u64 r2.e)).setCell ⟨gR, 5, none⟩ (.int .u64 r2.f)).setCell ⟨gR, 6, none⟩ (.slice r2.L.A r2.L.n r2.L.c)).setCell ⟨gR, 7, none⟩ (.slice r2.P.A r2.P.n r2.P.c)).setCell ⟨gR, 8, none⟩ (.int .u64 r2.h)).setCell ⟨gR, 9, none⟩ (.int .u64 r2.t)).setCell ⟨gR, 10, none⟩ (.slice r2.K.A r2.K.n r2.K.c)).setCell ⟨gR, 11, none⟩ (.slice r2.X.A r2.X.n r2.X.c)).setCell ⟨gR, 12, none⟩ (.slice r2.S.A r2.S.n r2.S.c))) := lh (Only.set_ (Only.set_ (Only.set_ (Only.set_ (Only.set_ (Only.set_ (Only.set_ (Only.set_ (Only.set_ (Only.refl (fun g_ => g_ = gR) V2) ⟨gR, 4, none⟩ (.inl rfl) (.int .u64 r2.e)) ⟨gR, 5, none⟩ (.inl rfl) (.int .u64 r2.f)) ⟨gR, 6, none⟩ (.inl rfl) (.slice r2.L.A r2.L.n r2.L.c)) ⟨gR, 7, none⟩ (.inl rfl) (.slice r2.P.A r2.P.n r2.P.c)) ⟨gR, 8, none⟩ (.inl rfl) (.int .u64 r2.h)) ⟨gR, 9, none⟩ (.inl rfl) (.int .u64 r2.t)) ⟨gR, 10, none⟩ (.inl rfl) (.slice r2.K.A r2.K.n r2.K.c)) ⟨gR, 11, none⟩ (.inl rfl) (.slice r2.X.A r2.X.n r2.X.c)) ⟨gR, 12, none⟩ (.inl rfl) (.slice r2.S.A r2.S.n r2.S.c))
       have I3 : Hid (Ir (((((((((V2.setCell ⟨gR, 4, none⟩ (.int .u64 r2.e)).setCell ⟨gR, 5, none⟩ (.int .u64 r2.f)).setCell ⟨gR, 6, none⟩ (.slice r2.L.A r2.L.n r2.L.c)).setCell ⟨gR, 7, none⟩ (.slice r2.P.A r2.P.n r2.P.c)).setCell ⟨gR, 8, none⟩ (.int .u64 r2.h)).setCell ⟨gR, 9, none⟩ (.int .u64 r2.t)).setCell ⟨gR, 10, none⟩ (.slice r2.K.A r2.K.n r2.K.c)).setCell ⟨gR, 11, none⟩ (.slice r2.X.A r2.X.n r2.X.c)).setCell ⟨gR, 12, none⟩ (.slice r2.S.A r2.S.n r2.S.c)) base gR gO gC gA co cc ca k K T M r2 sS1 sK1 cO1 cC1 cA1 qs1 { s1 with m := (acc s1.m (ask f)).1 }) := lh (I2.out.setR O3.out (by have h_ := (Blk.set_ (Blk.set_ (Blk.set_ (Blk.set_ (Blk.set_ (Blk.set_ (Blk.set_ (Blk.set_ (Blk.set_ I2.out.hR 4 (.int .u64 r2.e)) 5 (.int .u64 r2.f)) 6 (.slice r2.L.A r2.L.n r2.L.c)) 7 (.slice r2.P.A r2.P.n r2.P.c)) 8 (.int .u64 r2.h)) 9 (.int .u64 r2.t)) 10 (.slice r2.K.A r2.K.n r2.K.c)) 11 (.slice r2.X.A r2.X.n r2.X.c)) 12 (.slice r2.S.A r2.S.n r2.S.c)); simpa only [sA, sZ, sC] using h_) R2.out OF.out OB.out (few_acc FEW.out))
       have GX3 := lh (GX2.out.only O3.out (Blk.ne GX2.out I2.out.hR (by decide)))
       have HW3 := lh (HW2.out.trans (O3.out.below I2.out.low.1 (fun g hg => by rw [hg]; exact I2.out.low.2.1)))
       clear hr2 hr2f hm2
       generalize (((((((((V2.setCell ⟨gR, 4, none⟩ (.int .u64 r2.e)).setCell ⟨gR, 5, none⟩ (.int .u64 r2.f)).setCell ⟨gR, 6, none⟩ (.slice r2.L.A r2.L.n r2.L.c)).setCell ⟨gR, 7, none⟩ (.slice r2.P.A r2.P.n r2.P.c)).setCell ⟨gR, 8, none⟩ (.int .u64 r2.h)).setCell ⟨gR, 9, none⟩ (.int .u64 r2.t)).setCell ⟨gR, 10, none⟩ (.slice r2.K.A r2.K.n r2.K.c)).setCell ⟨gR, 11, none⟩ (.slice r2.X.A r2.X.n r2.X.c)).setCell ⟨gR, 12, none⟩ (.slice r2.S.A r2.S.n r2.S.c)) = V3 at O3 I3 GX3 HW3 ⊢
       clear O3
       have hr3 := I3.out.hR.cell
       have hx3 := GX3.out.cell
       obtain ⟨j0, hj0, hjz0, hjz1, hjz2⟩ := info_parts step_cell
       have SR := lh (And.intro hj0 (And.intro hjz0 (And.intro hjz1 hjz2)))
       clear hj0 hjz0 hjz1 hjz2
       refine Zreg.begin_ (S := (fun w' => (∀ j, w'.cell? ⟨gR, j, none⟩ = (#[.int .i64 k, .int .i64 K, .int .i64 T, .int .i64 M, .int .u64 r2.e, .int .u64 r2.f, .slice r2.L.A r2.L.n r2.L.c, .slice r2.P.A r2.P.n r2.P.c, .int .u64 r2.h, .int .u64 r2.t, .slice r2.K.A r2.K.n r2.K.c, .slice r2.X.A r2.X.n r2.X.c, .slice r2.S.A r2.S.n r2.S.c, .slice (some ⟨gO, 0, none⟩) T co, .slice (some ⟨gC, 0, none⟩) T cc, .slice (some ⟨gA, 0, none⟩) T ca, .slice sS1.A sS1.n sS1.c, .slice sK1.A sK1.n sK1.c, .int .u64 0, .int .u64 0, .slice none 0 0, .slice none 0 0, .int .u64 0, .int .u64 0, .slice none 0 0, .slice none 0 0, .slice none 0 0] : Array Value)[j]?) /\ (∀ j, w'.cell? ⟨gX, j, none⟩ = (#[.int .i64 (ask f).d, .int .i64 (ask f).ar, .int .i64 (ask f).at_, .int .u64 (ask f).old, .int .u64 (ask f).new] : Array Value)[j]?))) (zs := [16]) (by kernel_rfl) ?_
       show Zreg.After _ _ _ _ _ _ 17 #[false, false, false, false, false, false, false, false, false, false, false, false, false, false, false, false, false] _ _
       refine Zreg.tP 0 104 (x := ?xs_0) rfl rfl (by kernel_rfl) (fun _ _ _ h => h) (.inr ⟨I3.out.hR.drew.cell, GX3.out.drew.cell⟩) (Or.inl ⟨by rfl, ?ys_0⟩) ?rs_0
       case ys_0 => (intro w _; go_simp <;> with_reducible rfl)
       simp only [sA, sZ, sC]
       refine Zreg.tP 1 105 (x := ?xs_1) rfl rfl (by kernel_rfl) (fun _ _ _ h => h) (.inr ⟨I3.out.hR.drew.cell, GX3.out.drew.cell⟩) (Or.inl ⟨by rfl, ?ys_1⟩) ?rs_1
       case ys_1 => (intro w _; go_simp <;> with_reducible rfl)
       simp only [sA, sZ, sC]
       refine Zreg.tP 2 106 (x := ?xs_2) rfl rfl (by kernel_rfl) (fun _ _ _ h => h) (.inr ⟨I3.out.hR.drew.cell, GX3.out.drew.cell⟩) (Or.inl ⟨by rfl, ?ys_2⟩) ?rs_2
       case ys_2 => (intro w _; go_simp <;> with_reducible rfl)
       simp only [sA, sZ, sC]
       refine Zreg.tP 3 107 (x := ?xs_3) rfl rfl (by kernel_rfl) (fun _ _ _ h => h) (.inr ⟨I3.out.hR.drew.cell, GX3.out.drew.cell⟩) (Or.inl ⟨by rfl, ?ys_3⟩) ?rs_3
       case ys_3 => (intro w _; go_simp <;> with_reducible rfl)
       simp only [sA, sZ, sC]
       refine Zreg.tP 4 108 (x := ?xs_4) rfl rfl (by kernel_rfl) (fun _ _ _ h => h) (.inr ⟨I3.out.hR.drew.cell, GX3.out.drew.cell⟩) (Or.inl ⟨by rfl, ?ys_4⟩) ?rs_4
       case ys_4 => (intro w _; go_simp <;> with_reducible rfl)
       simp only [sA, sZ, sC]
       refine Zreg.tS 5 109 (x := ?xs_5) rfl rfl (by kernel_rfl) (fun _ _ _ h => h) (.inr ⟨I3.out.hR.drew.cell, GX3.out.drew.cell⟩) (Or.inl ⟨by rfl, ?ys_5⟩) ?rs_5
       case ys_5 => (intro w hSw; (try dsimp only at hSw); go_simp <;> with_reducible rfl)
       simp only [sA, sZ, sC]
       refine Zreg.tP 6 110 (x := ?xs_6) rfl rfl (by kernel_rfl) (fun _ _ _ h => h) (.inr ⟨I3.out.hR.drew.cell, GX3.out.drew.cell⟩) (Or.inl ⟨by rfl, ?ys_6⟩) ?rs_6
       case ys_6 => (intro w _; go_simp <;> with_reducible rfl)
       simp only [sA, sZ, sC]
       refine Zreg.tS 7 111 (x := ?xs_7) rfl rfl (by kernel_rfl) (fun _ _ _ h => h) (.inr ⟨I3.out.hR.drew.cell, GX3.out.drew.cell⟩) (Or.inl ⟨by rfl, ?ys_7⟩) ?rs_7
       case ys_7 => (intro w hSw; (try dsimp only at hSw); go_simp <;> with_reducible rfl)
       simp only [sA, sZ, sC]
       refine Zreg.tP 8 112 (x := ?xs_8) rfl rfl (by kernel_rfl) (fun _ _ _ h => h) (.inr ⟨I3.out.hR.drew.cell, GX3.out.drew.cell⟩) (Or.inl ⟨by rfl, ?ys_8⟩) ?rs_8
       case ys_8 => (intro w _; go_simp <;> with_reducible rfl)
       simp only [sA, sZ, sC]
       refine Zreg.tP 9 113 (x := ?xs_9) rfl rfl (by kernel_rfl) (fun _ _ _ h => h) (.inr ⟨I3.out.hR.drew.cell, GX3.out.drew.cell⟩) (Or.inl ⟨by rfl, ?ys_9⟩) ?rs_9
       case ys_9 => (intro w _; go_simp <;> with_reducible rfl)
       simp only [sA, sZ, sC]
       refine Zreg.tP 10 114 (x := ?xs_10) rfl rfl (by kernel_rfl) (fun _ _ _ h => h) (.inr ⟨I3.out.hR.drew.cell, GX3.out.drew.cell⟩) (Or.inl ⟨by rfl, ?ys_10⟩) ?rs_10
       case ys_10 => (intro w _; go_simp <;> with_reducible rfl)
       simp only [sA, sZ, sC]
       refine Zreg.one 11 (by kernel_rfl) rfl rfl fun K_ hK => ?_
       go_simp
       refine hK.out _ _ (.inr ⟨(I3.out.hR.drew.alloc _).cell, (GX3.out.drew.alloc _).cell⟩) fun _ => ?_
       clear hK
       simp only [sA, sZ, sC]
       refine Zreg.one 12 (by kernel_rfl) rfl rfl fun K_ hK => ?_
       refine wp_app2 (.tmp 109) (.tmp 115) 28 rfl base 68 j0 _ 8 64 Tryz.underlying28 SR.out.1 SR.out.2.1 SR.out.2.2.1 SR.out.2.2.2 rfl (by decide) sS1 s1.steps.length (flatT s1.steps) (by simp [Act.eval]) (Row.alloc I3.out.hS (.cells #[.int .i64 t, .int .i64 (ask f).d, .int .i64 (ask f).ar, .int .i64 (ask f).at_, .int .u64 (ask f).old, .int .u64 (ask f).new, .int .u64 (acc s1.m (ask f)).2.1, .bool (acc s1.m (ask f)).2.2] 68)) V3.heap.size [.int .i64 t, .int .i64 (ask f).d, .int .i64 (ask f).ar, .int .i64 (ask f).at_, .int .u64 (ask f).old, .int .u64 (ask f).new, .int .u64 (acc s1.m (ask f)).2.1, .bool (acc s1.m (ask f)).2.2] (by simp [Act.eval]) rfl (fun j u hj => (Blk.cell (blk_at rfl) j).trans (by simpa using hj)) (by simp [Value.oneCell']) (Nat.lt_of_le_of_lt HCAP.out.1 (by decide)) (by decide) (Nat.le_trans I3.out.low.1 (by simp)) ?_
       intro s4 w7 hr7 ho7 hw7
       have R7 := lh (Blk.only (I3.out.hR.alloc (.cells #[.int .i64 t, .int .i64 (ask f).d, .int .i64 (ask f).ar, .int .i64 (ask f).at_, .int .u64 (ask f).old, .int .u64 (ask f).new, .int .u64 (acc s1.m (ask f)).2.1, .bool (acc s1.m (ask f)).2.2] 68)).drew ho7 (fun hg => Row.ne I3.out.hS I3.out.hR (by decide) _ hg rfl))
       have G7 := lh (Blk.only (GX3.out.alloc (.cells #[.int .i64 t, .int .i64 (ask f).d, .int .i64 (ask f).ar, .int .i64 (ask f).at_, .int .u64 (ask f).old, .int .u64 (ask f).new, .int .u64 (acc s1.m (ask f)).2.1, .bool (acc s1.m (ask f)).2.2] 68)).drew ho7 (fun hg => Row.ne I3.out.hS GX3.out (by decide) _ hg rfl))
       have A7 : Hid (Only (fun g => g = gR \/ bl sS1 g) V3 w7) := lh (Only.next ((Only.refl (fun g => g = gR \/ bl sS1 g) V3).alloc (.cells #[.int .i64 t, .int .i64 (ask f).d, .int .i64 (ask f).ar, .int .i64 (ask f).at_, .int .u64 (ask f).old, .int .u64 (ask f).new, .int .u64 (acc s1.m (ask f)).2.1, .bool (acc s1.m (ask f)).2.2] 68)).drew ho7 (fun k _ h => .inr h))
       have S7 := lh hr7
       have L7 : Hid (∀ g, bl s4 g -> bl sS1 g \/ V3.heap.size <= g) := lh (fun g hg => (hw7 g hg).imp_right (fun e => by rw [e]; show V3.heap.size <= (V3.alloc (.cells #[.int .i64 t, .int .i64 (ask f).d, .int .i64 (ask f).ar, .int .i64 (ask f).at_, .int .u64 (ask f).old, .int .u64 (ask f).new, .int .u64 (acc s1.m (ask f)).2.1, .bool (acc s1.m (ask f)).2.2] 68)).heap.size; simp))
       clear hr7 ho7 hw7 hr3 hx3
       have hc7 := R7.out.cell
       have hf7 := R7.out.frozen
       refine hK.out _ _ (.inr ⟨R7.out.cell, G7.out.cell⟩) fun _ => ?_
       clear hK
       try simp only [Act.put, List.setIfInBounds_toArray, List.set_cons_zero, List.set_cons_succ]
       refine Zreg.tP 13 117 (x := ?xs_13) rfl rfl (by kernel_rfl) (fun _ _ _ h => h) (.inr ⟨R7.out.cell, G7.out.cell⟩) (Or.inl ⟨by rfl, ?ys_13⟩) ?rs_13
       case ys_13 => (intro w _; go_simp <;> with_reducible rfl)
       simp only [sA, sZ, sC]
       refine Zreg.tP 14 118 (x := ?xs_14) rfl rfl (by kernel_rfl) (fun _ _ _ h => h) (.inr ⟨R7.out.cell, G7.out.cell⟩) (Or.inl ⟨by rfl, ?ys_14⟩) ?rs_14
       case ys_14 => (intro w _; go_simp <;> with_reducible rfl)
       simp only [sA, sZ, sC]
       refine Zreg.tP 15 119 (x := ?xs_15) rfl rfl (by kernel_rfl) (fun _ _ _ h => h) (.inr ⟨R7.out.cell, G7.out.cell⟩) (Or.inl ⟨by rfl, ?ys_15⟩) ?rs_15
       case ys_15 => (intro w _; go_simp <;> with_reducible rfl)
       simp only [sA, sZ, sC]
       refine Zreg.one 16 (by kernel_rfl) rfl rfl fun K_ hK => ?_
       go_simp
       refine hK.out _ _ (.inl (by kernel_rfl)) fun _ => ?_
       clear hK
       simp only [sA, sZ, sC]
       refine Zreg.done (by kernel_rfl) ?_ _
       have O4 : Hid (Only (fun g => g = gR \/ bl sS1 g) V3 (w7.setCell ⟨gR, 16, none⟩ (.slice s4.A s4.n s4.c))) := lh (Only.set_ A7.out ⟨gR, 16, none⟩ (.inl (.inl rfl)) _)
       have I4 : Hid (Ir (w7.setCell ⟨gR, 16, none⟩ (.slice s4.A s4.n s4.c)) base gR gO gC gA co cc ca k K T M r2 s4 sK1 cO1 cC1 cA1 qs1 { s1 with m := (acc s1.m (ask f)).1, steps := s1.steps ++ [⟨t, ask f, (acc s1.m (ask f)).2.1, (acc s1.m (ask f)).2.2⟩] }) := lh (Ir.stepd (sS' := s4) (x := ⟨t, ask f, (acc s1.m (ask f)).2.1, (acc s1.m (ask f)).2.2⟩) I3.out O4.out (by have h_ := Blk.set_ R7.out 16 (.slice s4.A s4.n s4.c); simpa only [sA, sZ, sC] using h_) (Row.kept S7.out (fun g hg => Below.heap_setCell _ _ _ _ (Row.ne S7.out R7.out (by decide) g hg))) L7.out (Nat.le_trans (Nat.succ_le_succ HCAP.out.1) (by decide)))
       have HW4 := lh (HW3.out.trans (O4.out.below I3.out.low.1 (fun g hg => by
         rcases hg with hg | hg
         · rw [hg]; exact I3.out.low.2.1
         · exact (I3.out.hS.lt hg).1)))
       clear hc7 hf7 O4 R7 G7 A7 S7 L7
       generalize (w7.setCell ⟨gR, 16, none⟩ (.slice s4.A s4.n s4.c)) = V4 at I4 HW4 ⊢
       have SQD : Hid (Rd V4 V4.heap.size q f.seen) := lh (I4.out.seen t f q HF0.out HQ1.out).1
       have SQM : Hid (∀ b, Mine gR gO gC gA s4 sK1 b -> OffQ q b) := lh (I4.out.seen t f q HF0.out HQ1.out).2
       have SQC : Hid (Rd V4.drew V4.drew.heap.size q f.seen) := lh SQD.out
       have SQC' : Hid (Rd (V4.alloc (.cells zF 107)).drew (V4.alloc (.cells zF 107)).drew.heap.size q f.seen) := lh ((SQD.out.below ((Below.refl _ _).alloc (Nat.le_refl _) (.cells zF 107)).drew).more ((Below.refl _ _).alloc (Nat.le_refl _) (.cells zF 107)).size)
       go_upto_region 12 with fail
       go_cut [17] (fun x wx => ∃ (gF : Nat) (q' : Sl) (cF : Array Value), x = .pointer (some ⟨gF, 0, none⟩) /\ wx.rangeAt gF 0 ((tell f (acc s1.m (ask f)).2.1 (acc s1.m (ask f)).2.2).v q') /\ Blk wx gF 107 cF /\ Below V4.heap.size V4 wx /\ Rd wx wx.heap.size q' (tell f (acc s1.m (ask f)).2.1 (acc s1.m (ask f)).2.2).seen /\ V4.heap.size <= gF /\ ∀ b, b < V4.heap.size -> OffQ q b -> OffQ q' b)
       case first =>
         refine Zreg.begin_ (S := (fun w' => (∀ j, w'.cell? ⟨gR, j, none⟩ = (#[.int .i64 k, .int .i64 K, .int .i64 T, .int .i64 M, .int .u64 r2.e, .int .u64 r2.f, .slice r2.L.A r2.L.n r2.L.c, .slice r2.P.A r2.P.n r2.P.c, .int .u64 r2.h, .int .u64 r2.t, .slice r2.K.A r2.K.n r2.K.c, .slice r2.X.A r2.X.n r2.X.c, .slice r2.S.A r2.S.n r2.S.c, .slice (some ⟨gO, 0, none⟩) T co, .slice (some ⟨gC, 0, none⟩) T cc, .slice (some ⟨gA, 0, none⟩) T ca, .slice s4.A s4.n s4.c, .slice sK1.A sK1.n sK1.c, .int .u64 0, .int .u64 0, .slice none 0 0, .slice none 0 0, .int .u64 0, .int .u64 0, .slice none 0 0, .slice none 0 0, .slice none 0 0] : Array Value)[j]?) /\ w'.rangeAt gO (t * 24) (f.v q))) (zs := [15]) (by kernel_rfl) ?_
         show Zreg.After _ _ _ _ _ _ 16 #[false, false, false, false, false, false, false, false, false, false, false, false, false, false, false, false] _ _
         refine Zreg.tP 0 120 (x := ?xt_0) rfl rfl (by kernel_rfl) (fun _ _ _ h => h) (.inr ⟨(I4.out.hR.drew).cell, range24 (I4.out.hO.drew) HF.out⟩) (Or.inl ⟨by rfl, ?yt_0⟩) ?rt_0
         case yt_0 => (intro w _; go_simp <;> with_reducible rfl)
         simp only [sA, sZ, sC]
         refine Zreg.tP 1 121 (x := ?xt_1) rfl rfl (by kernel_rfl) (fun _ _ _ h => h) (.inr ⟨(I4.out.hR.drew).cell, range24 (I4.out.hO.drew) HF.out⟩) (Or.inl ⟨by rfl, ?yt_1⟩) ?rt_1
         case yt_1 => (intro w _; go_simp <;> with_reducible rfl)
         simp only [sA, sZ, sC]
         refine Zreg.tP 2 122 (x := ?xt_2) rfl rfl (by kernel_rfl) (fun _ _ _ h => h) (.inr ⟨(I4.out.hR.drew).cell, range24 (I4.out.hO.drew) HF.out⟩) (Or.inl ⟨by rfl, ?yt_2⟩) ?rt_2
         case yt_2 => (intro w _; go_simp <;> with_reducible rfl)
         simp only [sA, sZ, sC]
         refine Zreg.tS 3 123 (x := ?xt_3) rfl rfl (by kernel_rfl) (fun _ _ _ h => h) (.inr ⟨(I4.out.hR.drew).cell, range24 (I4.out.hO.drew) HF.out⟩) (Or.inl ⟨by rfl, ?yt_3⟩) ?rt_3
         case yt_3 => (intro w hSw; (try dsimp only at hSw); go_simp <;> with_reducible rfl)
         simp only [sA, sZ, sC]
         refine Zreg.tP 4 124 (x := ?xt_4) rfl rfl (by kernel_rfl) (fun _ _ _ h => h) (.inr ⟨(I4.out.hR.drew).cell, range24 (I4.out.hO.drew) HF.out⟩) (Or.inl ⟨by rfl, ?yt_4⟩) ?rt_4
         case yt_4 => (intro w _; go_simp <;> with_reducible rfl)
         simp only [sA, sZ, sC]
         refine Zreg.tP 5 125 (x := ?xt_5) rfl rfl (by kernel_rfl) (fun _ _ _ h => h) (.inr ⟨(I4.out.hR.drew).cell, range24 (I4.out.hO.drew) HF.out⟩) (Or.inl ⟨by rfl, ?yt_5⟩) ?rt_5
         case yt_5 => (intro w _; go_simp <;> with_reducible rfl)
         simp only [sA, sZ, sC]
         refine Zreg.tP 6 126 (x := ?xt_6) rfl rfl (by kernel_rfl) (fun _ _ _ h => h) (.inr ⟨(I4.out.hR.drew).cell, range24 (I4.out.hO.drew) HF.out⟩) (Or.inl ⟨by rfl, ?yt_6⟩) ?rt_6
         case yt_6 => (intro w _; go_simp <;> with_reducible rfl)
         simp only [sA, sZ, sC]
         refine Zreg.tS 7 127 (x := ?xt_7) rfl rfl (by kernel_rfl) (fun _ _ _ h => h) (.inr ⟨(I4.out.hR.drew).cell, range24 (I4.out.hO.drew) HF.out⟩) (Or.inl ⟨by rfl, ?yt_7⟩) ?rt_7
         case yt_7 => (intro w hSw; (try dsimp only at hSw); go_simp <;> with_reducible rfl)
         simp only [sA, sZ, sC]
         refine Zreg.tP 8 128 (x := ?xt_8) rfl rfl (by kernel_rfl) (fun _ _ _ h => h) (.inr ⟨(I4.out.hR.drew).cell, range24 (I4.out.hO.drew) HF.out⟩) (Or.inl ⟨by rfl, ?yt_8⟩) ?rt_8
         case yt_8 => (intro w _; go_simp <;> with_reducible rfl)
         simp only [sA, sZ, sC]
         refine Zreg.tP 9 129 (x := ?xt_9) rfl rfl (by kernel_rfl) (fun _ _ _ h => h) (.inr ⟨(I4.out.hR.drew).cell, range24 (I4.out.hO.drew) HF.out⟩) (Or.inl ⟨by rfl, ?yt_9⟩) ?rt_9
         case yt_9 => (intro w _; go_simp <;> with_reducible rfl)
         simp only [sA, sZ, sC]
         refine Zreg.takeS 10 130 (x := .agg (f.v q).toArray) rfl rfl (by kernel_rfl) (by kernel_rfl) (by kernel_rfl) (by kernel_rfl) (by kernel_rfl) (by kernel_rfl) (fun _ _ _ h => h) (.inr ⟨(I4.out.hR.drew).cell, range24 (I4.out.hO.drew) HF.out⟩) (yieldsIf_load_mid (by rfl) 107 (.tmp 129) rfl gO (t * 24) (by simp [Act.eval]) (f.v q) _ (fun _ h => h.2) Tryz.underlying107 rfl f_size) ?rt_10
         simp only [sA, sZ, sC]
         refine Zreg.tP 11 131 (x := ?xt_11) rfl rfl (by kernel_rfl) (fun _ _ _ h => h) (.inr ⟨(I4.out.hR.drew).cell, range24 (I4.out.hO.drew) HF.out⟩) (Or.inl ⟨by rfl, ?yt_11⟩) ?rt_11
         case yt_11 => (intro w _; go_simp <;> with_reducible rfl)
         simp only [sA, sZ, sC]
         refine Zreg.tP 12 132 (x := ?xt_12) rfl rfl (by kernel_rfl) (fun _ _ _ h => h) (.inr ⟨(I4.out.hR.drew).cell, range24 (I4.out.hO.drew) HF.out⟩) (Or.inl ⟨by rfl, ?yt_12⟩) ?rt_12
         case yt_12 => (intro w _; go_simp <;> with_reducible rfl)
         simp only [sA, sZ, sC]
         refine Zreg.two 13 14 (by kernel_rfl) rfl rfl rfl rfl (fun K_ hK => ?ct_13) (fun K_ hK => ?ct_14)
         case ct_13 =>
           go_simp
           go_at_call 61
           (with_reducible refine (hTell.out V4.drew q (acc s1.m (ask f)).2.1 (acc s1.m (ask f)).2.2 rfl rfl SQC.out).mono ?_)
           rintro e w6 ⟨q', rfl, hrd, hb, hoq⟩
           have D6 : Hid (Below V4.heap.size V4 w6) := lh ((Below.refl _ _).drew.trans hb)
           have Q6 := lh hrd
           have O6 : Hid (∀ b, b < V4.heap.size -> OffQ q b -> OffQ q' b) := lh hoq
           clear hrd hb hoq
           refine hK.out _ _ (.inr ⟨(I4.out.hR.below D6.out I4.out.hR.lt).cell, range24 (I4.out.hO.below D6.out I4.out.hO.lt) HF.out⟩) fun _ => ?_
           clear hK
           simp only [sA, sZ, sC]
           refine Zreg.one 14 (by kernel_rfl) rfl rfl fun K_ hK => ?_
           go_simp
           refine hK.out _ _ (.inr ⟨((I4.out.hR.below D6.out I4.out.hR.lt).alloc _).cell, range24 ((I4.out.hO.below D6.out I4.out.hO.lt).alloc _) HF.out⟩) fun _ => ?_
           clear hK
           simp only [sA, sZ, sC]
           refine Zreg.one 15 (by kernel_rfl) rfl rfl fun K_ hK => ?_
           refine wp_store_mid 107 (.tmp 17) (.tmp 133) rfl w6.heap.size 0 ((tell f (acc s1.m (ask f)).2.1 (acc s1.m (ask f)).2.2).v q').toArray (by simp [Act.eval]) (by simp [Act.eval]) (there24 (Blk.new w6 107 #[.int .i64 0, .int .u32 0, .int .i64 0, .int .i64 0, .int .i64 0, .int .u64 0, .int .u64 0, .int .u64 0, .int .u64 0, .int .i64 0, .slice none 0 0, .bool false, .int .u64 0, .int .u64 0, .int .i64 0, .int .u32 0, .int .i64 0, .int .i64 0, .int .i64 0, .int .i64 0, .int .u64 0, .int .u64 0, .int .i64 0, .int .u32 0]) (by decide)) f_size (FS.one _ _) ?_
           refine hK.out _ _ (.inl (by kernel_rfl)) fun _ => ?_
           clear hK
           try simp only [Act.put, List.setIfInBounds_toArray, List.set_cons_zero, List.set_cons_succ]
           refine Zreg.done (by kernel_rfl) ?_ _
           go_wp2_with fail
           go_meet
           have BN := Blk.new w6 107 #[.int .i64 0, .int .u32 0, .int .i64 0, .int .i64 0, .int .i64 0, .int .u64 0, .int .u64 0, .int .u64 0, .int .u64 0, .int .i64 0, .slice none 0 0, .bool false, .int .u64 0, .int .u64 0, .int .i64 0, .int .u32 0, .int .i64 0, .int .i64 0, .int .i64 0, .int .i64 0, .int .u64 0, .int .u64 0, .int .i64 0, .int .u32 0]
           have OS : Only (fun g => g = w6.heap.size) (w6.alloc (.cells zF 107)) ((w6.alloc (.cells zF 107)).setCells w6.heap.size 0 ((tell f (acc s1.m (ask f)).2.1 (acc s1.m (ask f)).2.2).v q')) := Only.sets (P := fun g => g = w6.heap.size) (.inl rfl) _ _ _ (Only.refl _ _)
           exact ⟨w6.heap.size, q', _, rfl, World.rangeAt_setCells_same _ _ _ _ (there24 BN (by decide)), Blk.sets _ _ _ _ BN, Only.below (Only.sets (P := fun g => V4.heap.size <= g) (.inl D6.out.size) _ _ _ ((Only.of_below D6.out (Nat.le_refl _)).alloc _)) (Nat.le_refl _) (fun k h => h), Rd.only ((Q6.out.below ((Below.refl _ _).alloc (Nat.le_refl _) _))) OS (by simp) (fun ad hn ha hp => rd_off Q6.out (Nat.le_refl _) ad hn ha hp), D6.out.size, O6.out⟩
         case ct_14 =>
           go_simp
           refine hK.out _ _ (.inr ⟨(I4.out.hR.drew.alloc _).cell, range24 (I4.out.hO.drew.alloc _) HF.out⟩) fun _ => ?_
           clear hK
           simp only [sA, sZ, sC]
           refine Zreg.one 13 (by kernel_rfl) rfl rfl fun K_ hK => ?_
           go_simp
           go_at_call 61
           (with_reducible refine (hTell.out (V4.alloc (.cells zF 107)).drew q (acc s1.m (ask f)).2.1 (acc s1.m (ask f)).2.2 rfl rfl SQC'.out).mono ?_)
           rintro e w6 ⟨q', rfl, hrd, hb, hoq⟩
           have hsz : V4.heap.size < (V4.alloc (.cells zF 107)).heap.size := by simp
           have D6 : Hid (Below V4.heap.size V4 w6) := lh (((Below.refl _ _).alloc (Nat.le_refl _) (.cells zF 107)).drew.trans (hb.mono (Nat.le_of_lt hsz)))
           have Q6 := lh hrd
           have O6 : Hid (∀ b, b < V4.heap.size -> OffQ q b -> OffQ q' b) := lh (fun b h1 h2 => hoq b (Nat.lt_trans h1 hsz) h2)
           have N6 : Hid (OffQ q' V4.heap.size) := lh (hoq _ hsz (rd_off SQD.out (Nat.le_refl _)))
           have X6 : Hid (Blk w6 V4.heap.size 107 #[.int .i64 0, .int .u32 0, .int .i64 0, .int .i64 0, .int .i64 0, .int .u64 0, .int .u64 0, .int .u64 0, .int .u64 0, .int .i64 0, .slice none 0 0, .bool false, .int .u64 0, .int .u64 0, .int .i64 0, .int .u32 0, .int .i64 0, .int .i64 0, .int .i64 0, .int .i64 0, .int .u64 0, .int .u64 0, .int .i64 0, .int .u32 0]) := lh ((Blk.new V4 107 #[.int .i64 0, .int .u32 0, .int .i64 0, .int .i64 0, .int .i64 0, .int .u64 0, .int .u64 0, .int .u64 0, .int .u64 0, .int .i64 0, .slice none 0 0, .bool false, .int .u64 0, .int .u64 0, .int .i64 0, .int .u32 0, .int .i64 0, .int .i64 0, .int .i64 0, .int .i64 0, .int .u64 0, .int .u64 0, .int .i64 0, .int .u32 0]).drew.below hb hsz)
           clear hrd hb hoq hsz
           refine hK.out _ _ (.inr ⟨(I4.out.hR.below D6.out I4.out.hR.lt).cell, range24 (I4.out.hO.below D6.out I4.out.hO.lt) HF.out⟩) fun _ => ?_
           clear hK
           simp only [sA, sZ, sC]
           refine Zreg.one 15 (by kernel_rfl) rfl rfl fun K_ hK => ?_
           refine wp_store_mid 107 (.tmp 17) (.tmp 133) rfl V4.heap.size 0 ((tell f (acc s1.m (ask f)).2.1 (acc s1.m (ask f)).2.2).v q').toArray (by simp [Act.eval]) (by simp [Act.eval]) (there24 X6.out (by decide)) f_size (FS.one _ _) ?_
           refine hK.out _ _ (.inl (by kernel_rfl)) fun _ => ?_
           clear hK
           try simp only [Act.put, List.setIfInBounds_toArray, List.set_cons_zero, List.set_cons_succ]
           refine Zreg.done (by kernel_rfl) ?_ _
           go_wp2_with fail
           go_meet
           have OS : Only (fun g => g = V4.heap.size) w6 (w6.setCells V4.heap.size 0 ((tell f (acc s1.m (ask f)).2.1 (acc s1.m (ask f)).2.2).v q')) := Only.sets (P := fun g => g = V4.heap.size) (.inl rfl) _ _ _ (Only.refl _ _)
           exact ⟨V4.heap.size, q', _, rfl, World.rangeAt_setCells_same _ _ _ _ (there24 X6.out (by decide)), Blk.sets _ _ _ _ X6.out, Only.below (Only.sets (P := fun g => V4.heap.size <= g) (.inl (Nat.le_refl _)) _ _ _ (Only.of_below D6.out (Nat.le_refl _))) (Nat.le_refl _) (fun k h => h), Rd.only Q6.out OS (Nat.le_refl _) (fun ad hn ha hp => N6.out ad hn ha hp), Nat.le_refl _, O6.out⟩
       case rest =>
         obtain ⟨gF, q', cF, rfl, hrg, hbf, hd4, hrq, hgf, hoq⟩ := hcut
         have GF := lh hrg
         have BF := lh hbf
         have I5 := lh (I4.out.below hd4)
         have HW5 := lh (HW4.out.trans (hd4.mono I4.out.low.1))
         have RQ := lh hrq
         have OQ : Hid (∀ b, Mine gR gO gC gA s4 sK1 b -> OffQ q' b) := lh (fun b hb => hoq b (Mine.lt I4.out hb).2 (SQM.out b hb))
         have NF : Hid (¬ gO = gF) := lh (fun e => by have := I4.out.hO.lt; omega)
         clear hrg hbf hd4 hrq hgf hoq
         generalize wc = V5 at GF BF I5 HW5 RQ ⊢

         have HSZ : Hid (t * 24 + 24 <= cO1.size) := lh (by have := I5.out.len.2.2.2.2; omega)
         go_wp2_with fail
         refine Zreg.begin_ (S := (fun w' => (∀ j, w'.cell? ⟨gR, j, none⟩ = (#[.int .i64 k, .int .i64 K, .int .i64 T, .int .i64 M, .int .u64 r2.e, .int .u64 r2.f, .slice r2.L.A r2.L.n r2.L.c, .slice r2.P.A r2.P.n r2.P.c, .int .u64 r2.h, .int .u64 r2.t, .slice r2.K.A r2.K.n r2.K.c, .slice r2.X.A r2.X.n r2.X.c, .slice r2.S.A r2.S.n r2.S.c, .slice (some ⟨gO, 0, none⟩) T co, .slice (some ⟨gC, 0, none⟩) T cc, .slice (some ⟨gA, 0, none⟩) T ca, .slice s4.A s4.n s4.c, .slice sK1.A sK1.n sK1.c, .int .u64 0, .int .u64 0, .slice none 0 0, .slice none 0 0, .int .u64 0, .int .u64 0, .slice none 0 0, .slice none 0 0, .slice none 0 0] : Array Value)[j]?) /\ w'.rangeAt gF 0 ((tell f (acc s1.m (ask f)).2.1 (acc s1.m (ask f)).2.2).v q'))) (zs := [7]) (by kernel_rfl) ?_
         show Zreg.After _ _ _ _ _ _ 8 #[false, false, false, false, false, false, false, false] _ _
         refine Zreg.tP 0 134 (x := ?xn_0) rfl rfl (by kernel_rfl) (fun _ _ _ h => h) (.inr ⟨I5.out.hR.drew.cell, GF.out⟩) (Or.inl ⟨by rfl, ?yn_0⟩) ?rn_0
         case yn_0 => (intro w _; go_simp <;> with_reducible rfl)
         simp only [sA, sZ, sC]
         refine Zreg.tP 1 135 (x := ?xn_1) rfl rfl (by kernel_rfl) (fun _ _ _ h => h) (.inr ⟨I5.out.hR.drew.cell, GF.out⟩) (Or.inl ⟨by rfl, ?yn_1⟩) ?rn_1
         case yn_1 => (intro w _; go_simp <;> with_reducible rfl)
         simp only [sA, sZ, sC]
         refine Zreg.tP 2 136 (x := ?xn_2) rfl rfl (by kernel_rfl) (fun _ _ _ h => h) (.inr ⟨I5.out.hR.drew.cell, GF.out⟩) (Or.inl ⟨by rfl, ?yn_2⟩) ?rn_2
         case yn_2 => (intro w _; go_simp <;> with_reducible rfl)
         simp only [sA, sZ, sC]
         refine Zreg.tS 3 137 (x := ?xn_3) rfl rfl (by kernel_rfl) (fun _ _ _ h => h) (.inr ⟨I5.out.hR.drew.cell, GF.out⟩) (Or.inl ⟨by rfl, ?yn_3⟩) ?rn_3
         case yn_3 => (intro w hSw; (try dsimp only at hSw); go_simp <;> with_reducible rfl)
         simp only [sA, sZ, sC]
         refine Zreg.tP 4 138 (x := ?xn_4) rfl rfl (by kernel_rfl) (fun _ _ _ h => h) (.inr ⟨I5.out.hR.drew.cell, GF.out⟩) (Or.inl ⟨by rfl, ?yn_4⟩) ?rn_4
         case yn_4 => (intro w _; go_simp <;> with_reducible rfl)
         simp only [sA, sZ, sC]
         refine Zreg.takeS 5 139 (x := .agg ((tell f (acc s1.m (ask f)).2.1 (acc s1.m (ask f)).2.2).v q').toArray) rfl rfl (by kernel_rfl) (by kernel_rfl) (by kernel_rfl) (by kernel_rfl) (by kernel_rfl) (by kernel_rfl) (fun _ _ _ h => h) (.inr ⟨I5.out.hR.drew.cell, GF.out⟩) (yieldsIf_load_mid (by rfl) 107 (.tmp 17) rfl gF 0 (by simp [Act.eval]) ((tell f (acc s1.m (ask f)).2.1 (acc s1.m (ask f)).2.2).v q') _ (fun _ h => h.2) Tryz.underlying107 rfl f_size) ?rn_5
         simp only [sA, sZ, sC]
         refine Zreg.tP 6 140 (x := ?xn_6) rfl rfl (by kernel_rfl) (fun _ _ _ h => h) (.inr ⟨I5.out.hR.drew.cell, GF.out⟩) (Or.inl ⟨by rfl, ?yn_6⟩) ?rn_6
         case yn_6 => (intro w _; go_simp <;> with_reducible rfl)
         simp only [sA, sZ, sC]
         refine Zreg.one 7 (by kernel_rfl) rfl rfl fun K_ hK => ?_
         refine wp_store_mid 107 (.tmp 140) (.tmp 139) rfl gO (t * 24) ((tell f (acc s1.m (ask f)).2.1 (acc s1.m (ask f)).2.2).v q').toArray (by simp [Act.eval]) (by simp [Act.eval]) (there24 I5.out.hO.drew HSZ.out) f_size (FS.one _ _) ?_
         refine hK.out _ _ (.inl (by kernel_rfl)) fun _ => ?_
         clear hK
         try simp only [Act.put, List.setIfInBounds_toArray, List.set_cons_zero, List.set_cons_succ]
         refine Zreg.done (by kernel_rfl) ?_ _
         simp only [List.getElem_toArray, List.getElem_cons_succ, List.getElem_cons_zero]
         have O6 : Hid (Only (fun g => g = gO) V5 (V5.drew.setCells gO (t * 24) ((tell f (acc s1.m (ask f)).2.1 (acc s1.m (ask f)).2.2).v q'))) := lh (Only.sets (P := fun g => g = gO) (.inl rfl) _ _ _ ((Only.refl _ V5).drew))
         have I6 : Hid (Ir (V5.drew.setCells gO (t * 24) ((tell f (acc s1.m (ask f)).2.1 (acc s1.m (ask f)).2.2).v q')) base gR gO gC gA co cc ca k K T M r2 s4 sK1 (setsA cO1 (t * 24) ((tell f (acc s1.m (ask f)).2.1 (acc s1.m (ask f)).2.2).v q')) cC1 cA1 (qs1.set t q') { s1 with m := (acc s1.m (ask f)).1, steps := s1.steps ++ [⟨t, ask f, (acc s1.m (ask f)).2.1, (acc s1.m (ask f)).2.2⟩], on := s1.on.set t (tell f (acc s1.m (ask f)).2.1 (acc s1.m (ask f)).2.2) }) := lh (Ir.ond (f := (tell f (acc s1.m (ask f)).2.1 (acc s1.m (ask f)).2.2)) (q := q') I5.out ht O6.out (Blk.sets _ _ _ _ I5.out.hO.drew) RQ.out OQ.out)
         have BF6 := lh (BF.out.only O6.out (fun e => NF.out e.symm))
         have LF : Hid (∀ j v, ((tell f (acc s1.m (ask f)).2.1 (acc s1.m (ask f)).2.2).v q')[j]? = some v -> cF[j]? = some v) := lh (fun j v hj => by have h1 := GF.out j v hj; rw [Nat.zero_add, BF.out.cell] at h1; exact h1)
         have HW6 := lh (HW5.out.trans (O6.out.below I5.out.low.1 (fun g hg => by rw [hg]; exact I5.out.low.2.2.1)))
         clear O6 I5 HW5 GF BF RQ OQ
         generalize (V5.drew.setCells gO (t * 24) ((tell f (acc s1.m (ask f)).2.1 (acc s1.m (ask f)).2.2).v q')) = V6 at I6 BF6 HW6 ⊢
         have hpcc : V6.cell? ⟨gF, 4, none⟩ = some (.int .i64 (tell f (acc s1.m (ask f)).2.1 (acc s1.m (ask f)).2.2).pc) := (BF6.out.cell 4).trans (LF.out 4 _ rfl)
         by_cases hpc : (tell f (acc s1.m (ask f)).2.1 (acc s1.m (ask f)).2.2).pc = 0
         · rw [hpc] at hpcc
           have HPC := lh hpc
           clear hpc
           obtain ⟨k0, hk0, hkl⟩ := HCALL.out
           have hcl := (I6.out.hC.cell t).trans (I6.out.call t k0 hk0)
           have hr6 := I6.out.hR.cell
           have HK0 := lh hk0
           have HKL := lh hkl
           clear hk0 hkl
           go_upto_region 16 with fail
           clear hpcc hcl hr6
           obtain ⟨KA, KN, KC⟩ := sK1
           obtain ⟨gK, hgK, _, hgl, hkc, hkfz⟩ := I6.out.hK.at_ (Nat.lt_of_le_of_lt (Nat.zero_le _) HKL.out)
           simp only at hgK
           subst hgK
           obtain ⟨cK, hcK⟩ := I6.out.hK.blk (g := gK) ⟨_, rfl, rfl⟩
           obtain ⟨x4, hx4_⟩ : ∃ x, cK[k0 * 7 + 4]? = some x := ⟨_, (hcK.cell _).symm.trans ((hkc (k0 * 7 + 4) (show k0 * 7 + 4 < s1.calls.length * 7 by have := HKL.out; omega)).trans (flatK_get s1.calls k0 _ 4 _ (List.getElem?_eq_getElem HKL.out) rfl))⟩
           have HX4 := lh hx4_
           clear hx4_
           obtain ⟨x5, hx5_⟩ : ∃ x, cK[k0 * 7 + 5]? = some x := ⟨_, (hcK.cell _).symm.trans ((hkc (k0 * 7 + 5) (show k0 * 7 + 5 < s1.calls.length * 7 by have := HKL.out; omega)).trans (flatK_get s1.calls k0 _ 5 _ (List.getElem?_eq_getElem HKL.out) rfl))⟩
           have HX5 := lh hx5_
           clear hx5_
           obtain ⟨x6, hx6_⟩ : ∃ x, cK[k0 * 7 + 6]? = some x := ⟨_, (hcK.cell _).symm.trans ((hkc (k0 * 7 + 6) (show k0 * 7 + 6 < s1.calls.length * 7 by have := HKL.out; omega)).trans (flatK_get s1.calls k0 _ 6 _ (List.getElem?_eq_getElem HKL.out) rfl))⟩
           have HX6 := lh hx6_
           clear hx6_
           have RR6 : Hid (Blk V6 gR 104 #[.int .i64 k, .int .i64 K, .int .i64 T, .int .i64 M, .int .u64 r2.e, .int .u64 r2.f, .slice r2.L.A r2.L.n r2.L.c, .slice r2.P.A r2.P.n r2.P.c, .int .u64 r2.h, .int .u64 r2.t, .slice r2.K.A r2.K.n r2.K.c, .slice r2.X.A r2.X.n r2.X.c, .slice r2.S.A r2.S.n r2.S.c, .slice (some ⟨gO, 0, none⟩) T co, .slice (some ⟨gC, 0, none⟩) T cc, .slice (some ⟨gA, 0, none⟩) T ca, .slice s4.A s4.n s4.c, .slice (some ⟨gK, 0, none⟩) KN KC, .int .u64 0, .int .u64 0, .slice none 0 0, .slice none 0 0, .int .u64 0, .int .u64 0, .slice none 0 0, .slice none 0 0, .slice none 0 0]) := lh I6.out.hR
           have FF6 := lh BF6.out
           have KK6 := lh I6.out.hK
           have OO6 : Hid (Only (fun g => g = gK) V6 V6) := lh (Only.refl _ _)
           have BK6 := lh hcK
           have C6 := lh I6.out.hC
           have NRK : ¬ gR = gK := Blk.ne I6.out.hR hcK (by decide)
           have NFK : ¬ gF = gK := Blk.ne BF6.out hcK (by decide)
           have NCK : ¬ gC = gK := Blk.ne I6.out.hC hcK (by decide)
           have hkn : KN = s1.calls.length := I6.out.hK.n_.1
           have hsn : s4.n = s1.steps.length + 1 := I6.out.hS.n_.1.trans (List.length_append ..)
           have k1 : (0 : Int) <= k0 := Int.natCast_nonneg _
           have k2 : (k0 : Int) < KN := Int.ofNat_lt.2 (by rw [hkn]; exact HKL.out)
           have hsub : IntKind.i64.wrap ((s4.n : Int) - 1) = (s1.steps.length : Int) := by rw [IntWalk.i64_in _ (by have := HCAP.out.1; omega)]; omega
           clear hkc hkfz hcK hkn hsn hgl
           have hc22 : cF[22]? = some (.int .i64 (tell f (acc s1.m (ask f)).2.1 (acc s1.m (ask f)).2.2).code) := LF.out 22 _ rfl
           have hc23 : cF[23]? = some (.int .u32 (tell f (acc s1.m (ask f)).2.1 (acc s1.m (ask f)).2.2).out) := LF.out 23 _ rfl
           have hr6 := RR6.out.cell
           have hf6 := FF6.out.cell
           have hkf6 := BK6.out.frozen
           have hk6 : V6.cell? ⟨gK, k0 * 7 + 4, none⟩ = some x4 := (BK6.out.cell _).trans (by exact HX4.out)
           refine Zreg.begin_ (S := (fun w' => (∀ j, w'.cell? ⟨gR, j, none⟩ = (#[.int .i64 k, .int .i64 K, .int .i64 T, .int .i64 M, .int .u64 r2.e, .int .u64 r2.f, .slice r2.L.A r2.L.n r2.L.c, .slice r2.P.A r2.P.n r2.P.c, .int .u64 r2.h, .int .u64 r2.t, .slice r2.K.A r2.K.n r2.K.c, .slice r2.X.A r2.X.n r2.X.c, .slice r2.S.A r2.S.n r2.S.c, .slice (some ⟨gO, 0, none⟩) T co, .slice (some ⟨gC, 0, none⟩) T cc, .slice (some ⟨gA, 0, none⟩) T ca, .slice s4.A s4.n s4.c, .slice (some ⟨gK, 0, none⟩) KN KC, .int .u64 0, .int .u64 0, .slice none 0 0, .slice none 0 0, .int .u64 0, .int .u64 0, .slice none 0 0, .slice none 0 0, .slice none 0 0] : Array Value)[j]?) /\ (∀ j, w'.cell? ⟨gF, j, none⟩ = cF[j]?))) (zs := [15]) (by kernel_rfl) ?_
           show Zreg.After _ _ _ _ _ _ 16 #[false, false, false, false, false, false, false, false, false, false, false, false, false, false, false, false] _ _
           refine Zreg.tP 0 151 (x := ?xk_0) rfl rfl (by kernel_rfl) (fun _ _ _ h => h) (.inr ⟨RR6.out.drew.cell, FF6.out.drew.cell⟩) (Or.inl ⟨by rfl, ?yk_0⟩) ?rk_0
           case yk_0 => (intro w _; go_simp <;> with_reducible rfl)
           simp only [sA, sZ, sC]
           refine Zreg.tP 1 152 (x := ?xk_1) rfl rfl (by kernel_rfl) (fun _ _ _ h => h) (.inr ⟨RR6.out.drew.cell, FF6.out.drew.cell⟩) (Or.inl ⟨by rfl, ?yk_1⟩) ?rk_1
           case yk_1 => (intro w _; go_simp <;> with_reducible rfl)
           simp only [sA, sZ, sC]
           refine Zreg.tP 2 153 (x := ?xk_2) rfl rfl (by kernel_rfl) (fun _ _ _ h => h) (.inr ⟨RR6.out.drew.cell, FF6.out.drew.cell⟩) (Or.inl ⟨by rfl, ?yk_2⟩) ?rk_2
           case yk_2 => (intro w _; go_simp <;> with_reducible rfl)
           simp only [sA, sZ, sC]
           refine Zreg.tP 3 154 (x := ?xk_3) rfl rfl (by kernel_rfl) (fun _ _ _ h => h) (.inr ⟨RR6.out.drew.cell, FF6.out.drew.cell⟩) (Or.inl ⟨by rfl, ?yk_3⟩) ?rk_3
           case yk_3 => (intro w _; go_simp <;> with_reducible rfl)
           simp only [sA, sZ, sC]
           refine Zreg.tS 4 155 (x := ?xk_4) rfl rfl (by kernel_rfl) (fun _ _ _ h => h) (.inr ⟨RR6.out.drew.cell, FF6.out.drew.cell⟩) (Or.inl ⟨by rfl, ?yk_4⟩) ?rk_4
           case yk_4 => (intro w hSw; (try dsimp only at hSw); go_simp <;> with_reducible rfl)
           simp only [sA, sZ, sC]
           refine Zreg.tP 5 156 (x := ?xk_5) rfl rfl (by kernel_rfl) (fun _ _ _ h => h) (.inr ⟨RR6.out.drew.cell, FF6.out.drew.cell⟩) (Or.inl ⟨by rfl, ?yk_5⟩) ?rk_5
           case yk_5 => (intro w _; go_simp <;> with_reducible rfl)
           simp only [sA, sZ, sC]
           refine Zreg.tP 6 157 (x := ?xk_6) rfl rfl (by kernel_rfl) (fun _ _ _ h => h) (.inr ⟨RR6.out.drew.cell, FF6.out.drew.cell⟩) (Or.inl ⟨by rfl, ?yk_6⟩) ?rk_6
           case yk_6 => (intro w _; go_simp <;> with_reducible rfl)
           simp only [sA, sZ, sC]
           refine Zreg.tP 7 158 (x := ?xk_7) rfl rfl (by kernel_rfl) (fun _ _ _ h => h) (.inr ⟨RR6.out.drew.cell, FF6.out.drew.cell⟩) (Or.inl ⟨by rfl, ?yk_7⟩) ?rk_7
           case yk_7 => (intro w _; go_simp <;> with_reducible rfl)
           simp only [sA, sZ, sC]
           refine Zreg.tP 8 159 (x := ?xk_8) rfl rfl (by kernel_rfl) (fun _ _ _ h => h) (.inr ⟨RR6.out.drew.cell, FF6.out.drew.cell⟩) (Or.inl ⟨by rfl, ?yk_8⟩) ?rk_8
           case yk_8 => (intro w _; go_simp <;> with_reducible rfl)
           simp only [sA, sZ, sC]
           refine Zreg.tP 9 160 (x := ?xk_9) rfl rfl (by kernel_rfl) (fun _ _ _ h => h) (.inr ⟨RR6.out.drew.cell, FF6.out.drew.cell⟩) (Or.inl ⟨by rfl, ?yk_9⟩) ?rk_9
           case yk_9 => (intro w _; go_simp <;> with_reducible rfl)
           simp only [sA, sZ, sC]
           refine Zreg.tS 10 161 (x := ?xk_10) rfl rfl (by kernel_rfl) (fun _ _ _ h => h) (.inr ⟨RR6.out.drew.cell, FF6.out.drew.cell⟩) (Or.inl ⟨by rfl, ?yk_10⟩) ?rk_10
           case yk_10 => (intro w hSw; (try dsimp only at hSw); go_simp <;> with_reducible rfl)
           simp only [sA, sZ, sC]
           refine Zreg.tP 11 162 (x := ?xk_11) rfl rfl (by kernel_rfl) (fun _ _ _ h => h) (.inr ⟨RR6.out.drew.cell, FF6.out.drew.cell⟩) (Or.inl ⟨by rfl, ?yk_11⟩) ?rk_11
           case yk_11 => (intro w _; go_simp <;> with_reducible rfl)
           simp only [sA, sZ, sC]
           refine Zreg.tP 12 163 (x := ?xk_12) rfl rfl (by kernel_rfl) (fun _ _ _ h => h) (.inr ⟨RR6.out.drew.cell, FF6.out.drew.cell⟩) (Or.inl ⟨by rfl, ?yk_12⟩) ?rk_12
           case yk_12 => (intro w _; go_simp <;> with_reducible rfl)
           simp only [sA, sZ, sC]
           refine Zreg.tP 13 164 (x := ?xk_13) rfl rfl (by kernel_rfl) (fun _ _ _ h => h) (.inr ⟨RR6.out.drew.cell, FF6.out.drew.cell⟩) (Or.inl ⟨by rfl, ?yk_13⟩) ?rk_13
           case yk_13 => (intro w _; go_simp <;> with_reducible rfl)
           simp only [sA, sZ, sC]
           refine Zreg.tP 14 165 (x := ?xk_14) rfl rfl (by kernel_rfl) (fun _ _ _ h => h) (.inr ⟨RR6.out.drew.cell, FF6.out.drew.cell⟩) (Or.inl ⟨by rfl, ?yk_14⟩) ?rk_14
           case yk_14 => (intro w _; go_simp <;> with_reducible rfl)
           simp only [sA, sZ, sC]
           refine Zreg.one 15 (by kernel_rfl) rfl rfl fun K_ hK => ?_
           go_simp
           refine hK.out _ _ (.inl (by kernel_rfl)) fun _ => ?_
           clear hK
           simp only [sA, sZ, sC]
           refine Zreg.done (by kernel_rfl) ?_ _
           have ok_ : Only (fun g => g = gK) V6 (V6.setCell ⟨gK, k0 * 7 + 4, none⟩ (.int .i64 (s1.steps.length : Int))).drew := (Only.set_ (Only.refl (fun g => g = gK) V6) ⟨gK, k0 * 7 + 4, none⟩ (.inl rfl) _).drew
           have RR7 := lh (RR6.out.only ok_ NRK)
           have FF7 := lh (FF6.out.only ok_ NFK)
           have KK7 := lh (Row.drew (Row.set_ KK6.out (g := gK) rfl (k0 * 7 + 4) (.int .i64 (s1.steps.length : Int))))
           have OO7 := lh (OO6.out.trans ok_)
           have BK7 := lh ((BK6.out.set_ (k0 * 7 + 4) (.int .i64 (s1.steps.length : Int))).drew)
           have C7 := lh (C6.out.only ok_ NCK)
           clear ok_ hr6 hf6 hkf6 hk6
           generalize (V6.setCell ⟨gK, k0 * 7 + 4, none⟩ (.int .i64 (s1.steps.length : Int))).drew = V7 at RR7 FF7 KK7 OO7 BK7 C7 ⊢
           have hr7 := RR7.out.cell
           have hf7 := FF7.out.cell
           have hkf7 := BK7.out.frozen
           have hk7 : V7.cell? ⟨gK, k0 * 7 + 5, none⟩ = some x5 := (BK7.out.cell _).trans (by rw [Array.getElem?_setIfInBounds_ne (by omega)]; exact HX5.out)
           go_wp2_with fail
           refine Zreg.begin_ (S := (fun w' => (∀ j, w'.cell? ⟨gR, j, none⟩ = (#[.int .i64 k, .int .i64 K, .int .i64 T, .int .i64 M, .int .u64 r2.e, .int .u64 r2.f, .slice r2.L.A r2.L.n r2.L.c, .slice r2.P.A r2.P.n r2.P.c, .int .u64 r2.h, .int .u64 r2.t, .slice r2.K.A r2.K.n r2.K.c, .slice r2.X.A r2.X.n r2.X.c, .slice r2.S.A r2.S.n r2.S.c, .slice (some ⟨gO, 0, none⟩) T co, .slice (some ⟨gC, 0, none⟩) T cc, .slice (some ⟨gA, 0, none⟩) T ca, .slice s4.A s4.n s4.c, .slice (some ⟨gK, 0, none⟩) KN KC, .int .u64 0, .int .u64 0, .slice none 0 0, .slice none 0 0, .int .u64 0, .int .u64 0, .slice none 0 0, .slice none 0 0, .slice none 0 0] : Array Value)[j]?) /\ (∀ j, w'.cell? ⟨gF, j, none⟩ = cF[j]?))) (zs := [10]) (by kernel_rfl) ?_
           show Zreg.After _ _ _ _ _ _ 11 #[false, false, false, false, false, false, false, false, false, false, false] _ _
           refine Zreg.tP 0 166 (x := ?xl_0) rfl rfl (by kernel_rfl) (fun _ _ _ h => h) (.inr ⟨RR7.out.drew.cell, FF7.out.drew.cell⟩) (Or.inl ⟨by rfl, ?yl_0⟩) ?rl_0
           case yl_0 => (intro w _; go_simp <;> with_reducible rfl)
           simp only [sA, sZ, sC]
           refine Zreg.tP 1 167 (x := ?xl_1) rfl rfl (by kernel_rfl) (fun _ _ _ h => h) (.inr ⟨RR7.out.drew.cell, FF7.out.drew.cell⟩) (Or.inl ⟨by rfl, ?yl_1⟩) ?rl_1
           case yl_1 => (intro w _; go_simp <;> with_reducible rfl)
           simp only [sA, sZ, sC]
           refine Zreg.tP 2 168 (x := ?xl_2) rfl rfl (by kernel_rfl) (fun _ _ _ h => h) (.inr ⟨RR7.out.drew.cell, FF7.out.drew.cell⟩) (Or.inl ⟨by rfl, ?yl_2⟩) ?rl_2
           case yl_2 => (intro w _; go_simp <;> with_reducible rfl)
           simp only [sA, sZ, sC]
           refine Zreg.tP 3 169 (x := ?xl_3) rfl rfl (by kernel_rfl) (fun _ _ _ h => h) (.inr ⟨RR7.out.drew.cell, FF7.out.drew.cell⟩) (Or.inl ⟨by rfl, ?yl_3⟩) ?rl_3
           case yl_3 => (intro w _; go_simp <;> with_reducible rfl)
           simp only [sA, sZ, sC]
           refine Zreg.tS 4 170 (x := ?xl_4) rfl rfl (by kernel_rfl) (fun _ _ _ h => h) (.inr ⟨RR7.out.drew.cell, FF7.out.drew.cell⟩) (Or.inl ⟨by rfl, ?yl_4⟩) ?rl_4
           case yl_4 => (intro w hSw; (try dsimp only at hSw); go_simp <;> with_reducible rfl)
           simp only [sA, sZ, sC]
           refine Zreg.tP 5 171 (x := ?xl_5) rfl rfl (by kernel_rfl) (fun _ _ _ h => h) (.inr ⟨RR7.out.drew.cell, FF7.out.drew.cell⟩) (Or.inl ⟨by rfl, ?yl_5⟩) ?rl_5
           case yl_5 => (intro w _; go_simp <;> with_reducible rfl)
           simp only [sA, sZ, sC]
           refine Zreg.tP 6 172 (x := ?xl_6) rfl rfl (by kernel_rfl) (fun _ _ _ h => h) (.inr ⟨RR7.out.drew.cell, FF7.out.drew.cell⟩) (Or.inl ⟨by rfl, ?yl_6⟩) ?rl_6
           case yl_6 => (intro w _; go_simp <;> with_reducible rfl)
           simp only [sA, sZ, sC]
           refine Zreg.tS 7 173 (x := ?xl_7) rfl rfl (by kernel_rfl) (fun _ _ _ h => h) (.inr ⟨RR7.out.drew.cell, FF7.out.drew.cell⟩) (Or.inl ⟨by rfl, ?yl_7⟩) ?rl_7
           case yl_7 => (intro w hSw; (try dsimp only at hSw); go_simp <;> with_reducible rfl)
           simp only [sA, sZ, sC]
           refine Zreg.tP 8 174 (x := ?xl_8) rfl rfl (by kernel_rfl) (fun _ _ _ h => h) (.inr ⟨RR7.out.drew.cell, FF7.out.drew.cell⟩) (Or.inl ⟨by rfl, ?yl_8⟩) ?rl_8
           case yl_8 => (intro w _; go_simp <;> with_reducible rfl)
           simp only [sA, sZ, sC]
           refine Zreg.tP 9 175 (x := ?xl_9) rfl rfl (by kernel_rfl) (fun _ _ _ h => h) (.inr ⟨RR7.out.drew.cell, FF7.out.drew.cell⟩) (Or.inl ⟨by rfl, ?yl_9⟩) ?rl_9
           case yl_9 => (intro w _; go_simp <;> with_reducible rfl)
           simp only [sA, sZ, sC]
           refine Zreg.one 10 (by kernel_rfl) rfl rfl fun K_ hK => ?_
           go_simp
           refine hK.out _ _ (.inl (by kernel_rfl)) fun _ => ?_
           clear hK
           simp only [sA, sZ, sC]
           refine Zreg.done (by kernel_rfl) ?_ _
           have ok_ : Only (fun g => g = gK) V7 (V7.setCell ⟨gK, k0 * 7 + 5, none⟩ (.int .i64 (tell f (acc s1.m (ask f)).2.1 (acc s1.m (ask f)).2.2).code)).drew := (Only.set_ (Only.refl (fun g => g = gK) V7) ⟨gK, k0 * 7 + 5, none⟩ (.inl rfl) _).drew
           have RR8 := lh (RR7.out.only ok_ NRK)
           have FF8 := lh (FF7.out.only ok_ NFK)
           have KK8 := lh (Row.drew (Row.set_ KK7.out (g := gK) rfl (k0 * 7 + 5) (.int .i64 (tell f (acc s1.m (ask f)).2.1 (acc s1.m (ask f)).2.2).code)))
           have OO8 := lh (OO7.out.trans ok_)
           have BK8 := lh ((BK7.out.set_ (k0 * 7 + 5) (.int .i64 (tell f (acc s1.m (ask f)).2.1 (acc s1.m (ask f)).2.2).code)).drew)
           have C8 := lh (C7.out.only ok_ NCK)
           clear ok_ hr7 hf7 hkf7 hk7
           generalize (V7.setCell ⟨gK, k0 * 7 + 5, none⟩ (.int .i64 (tell f (acc s1.m (ask f)).2.1 (acc s1.m (ask f)).2.2).code)).drew = V8 at RR8 FF8 KK8 OO8 BK8 C8 ⊢
           have hr8 := RR8.out.cell
           have hf8 := FF8.out.cell
           have hkf8 := BK8.out.frozen
           have hk8 : V8.cell? ⟨gK, k0 * 7 + 6, none⟩ = some x6 := (BK8.out.cell _).trans (by rw [Array.getElem?_setIfInBounds_ne (by omega)]; rw [Array.getElem?_setIfInBounds_ne (by omega)]; exact HX6.out)
           go_wp2_with fail
           refine Zreg.begin_ (S := (fun w' => (∀ j, w'.cell? ⟨gR, j, none⟩ = (#[.int .i64 k, .int .i64 K, .int .i64 T, .int .i64 M, .int .u64 r2.e, .int .u64 r2.f, .slice r2.L.A r2.L.n r2.L.c, .slice r2.P.A r2.P.n r2.P.c, .int .u64 r2.h, .int .u64 r2.t, .slice r2.K.A r2.K.n r2.K.c, .slice r2.X.A r2.X.n r2.X.c, .slice r2.S.A r2.S.n r2.S.c, .slice (some ⟨gO, 0, none⟩) T co, .slice (some ⟨gC, 0, none⟩) T cc, .slice (some ⟨gA, 0, none⟩) T ca, .slice s4.A s4.n s4.c, .slice (some ⟨gK, 0, none⟩) KN KC, .int .u64 0, .int .u64 0, .slice none 0 0, .slice none 0 0, .int .u64 0, .int .u64 0, .slice none 0 0, .slice none 0 0, .slice none 0 0] : Array Value)[j]?) /\ (∀ j, w'.cell? ⟨gF, j, none⟩ = cF[j]?))) (zs := [10]) (by kernel_rfl) ?_
           show Zreg.After _ _ _ _ _ _ 11 #[false, false, false, false, false, false, false, false, false, false, false] _ _
           refine Zreg.tP 0 176 (x := ?xm_0) rfl rfl (by kernel_rfl) (fun _ _ _ h => h) (.inr ⟨RR8.out.drew.cell, FF8.out.drew.cell⟩) (Or.inl ⟨by rfl, ?ym_0⟩) ?rm_0
           case ym_0 => (intro w _; go_simp <;> with_reducible rfl)
           simp only [sA, sZ, sC]
           refine Zreg.tP 1 177 (x := ?xm_1) rfl rfl (by kernel_rfl) (fun _ _ _ h => h) (.inr ⟨RR8.out.drew.cell, FF8.out.drew.cell⟩) (Or.inl ⟨by rfl, ?ym_1⟩) ?rm_1
           case ym_1 => (intro w _; go_simp <;> with_reducible rfl)
           simp only [sA, sZ, sC]
           refine Zreg.tP 2 178 (x := ?xm_2) rfl rfl (by kernel_rfl) (fun _ _ _ h => h) (.inr ⟨RR8.out.drew.cell, FF8.out.drew.cell⟩) (Or.inl ⟨by rfl, ?ym_2⟩) ?rm_2
           case ym_2 => (intro w _; go_simp <;> with_reducible rfl)
           simp only [sA, sZ, sC]
           refine Zreg.tP 3 179 (x := ?xm_3) rfl rfl (by kernel_rfl) (fun _ _ _ h => h) (.inr ⟨RR8.out.drew.cell, FF8.out.drew.cell⟩) (Or.inl ⟨by rfl, ?ym_3⟩) ?rm_3
           case ym_3 => (intro w _; go_simp <;> with_reducible rfl)
           simp only [sA, sZ, sC]
           refine Zreg.tS 4 180 (x := ?xm_4) rfl rfl (by kernel_rfl) (fun _ _ _ h => h) (.inr ⟨RR8.out.drew.cell, FF8.out.drew.cell⟩) (Or.inl ⟨by rfl, ?ym_4⟩) ?rm_4
           case ym_4 => (intro w hSw; (try dsimp only at hSw); go_simp <;> with_reducible rfl)
           simp only [sA, sZ, sC]
           refine Zreg.tP 5 181 (x := ?xm_5) rfl rfl (by kernel_rfl) (fun _ _ _ h => h) (.inr ⟨RR8.out.drew.cell, FF8.out.drew.cell⟩) (Or.inl ⟨by rfl, ?ym_5⟩) ?rm_5
           case ym_5 => (intro w _; go_simp <;> with_reducible rfl)
           simp only [sA, sZ, sC]
           refine Zreg.tP 6 182 (x := ?xm_6) rfl rfl (by kernel_rfl) (fun _ _ _ h => h) (.inr ⟨RR8.out.drew.cell, FF8.out.drew.cell⟩) (Or.inl ⟨by rfl, ?ym_6⟩) ?rm_6
           case ym_6 => (intro w _; go_simp <;> with_reducible rfl)
           simp only [sA, sZ, sC]
           refine Zreg.tS 7 183 (x := ?xm_7) rfl rfl (by kernel_rfl) (fun _ _ _ h => h) (.inr ⟨RR8.out.drew.cell, FF8.out.drew.cell⟩) (Or.inl ⟨by rfl, ?ym_7⟩) ?rm_7
           case ym_7 => (intro w hSw; (try dsimp only at hSw); go_simp <;> with_reducible rfl)
           simp only [sA, sZ, sC]
           refine Zreg.tP 8 184 (x := ?xm_8) rfl rfl (by kernel_rfl) (fun _ _ _ h => h) (.inr ⟨RR8.out.drew.cell, FF8.out.drew.cell⟩) (Or.inl ⟨by rfl, ?ym_8⟩) ?rm_8
           case ym_8 => (intro w _; go_simp <;> with_reducible rfl)
           simp only [sA, sZ, sC]
           refine Zreg.tP 9 185 (x := ?xm_9) rfl rfl (by kernel_rfl) (fun _ _ _ h => h) (.inr ⟨RR8.out.drew.cell, FF8.out.drew.cell⟩) (Or.inl ⟨by rfl, ?ym_9⟩) ?rm_9
           case ym_9 => (intro w _; go_simp <;> with_reducible rfl)
           simp only [sA, sZ, sC]
           refine Zreg.one 10 (by kernel_rfl) rfl rfl fun K_ hK => ?_
           go_simp
           refine hK.out _ _ (.inl (by kernel_rfl)) fun _ => ?_
           clear hK
           simp only [sA, sZ, sC]
           refine Zreg.done (by kernel_rfl) ?_ _
           have ok_ : Only (fun g => g = gK) V8 (V8.setCell ⟨gK, k0 * 7 + 6, none⟩ (.int .u32 (tell f (acc s1.m (ask f)).2.1 (acc s1.m (ask f)).2.2).out)).drew := (Only.set_ (Only.refl (fun g => g = gK) V8) ⟨gK, k0 * 7 + 6, none⟩ (.inl rfl) _).drew
           have RR9 := lh (RR8.out.only ok_ NRK)
           have FF9 := lh (FF8.out.only ok_ NFK)
           have KK9 := lh (Row.drew (Row.set_ KK8.out (g := gK) rfl (k0 * 7 + 6) (.int .u32 (tell f (acc s1.m (ask f)).2.1 (acc s1.m (ask f)).2.2).out)))
           have OO9 := lh (OO8.out.trans ok_)
           have BK9 := lh ((BK8.out.set_ (k0 * 7 + 6) (.int .u32 (tell f (acc s1.m (ask f)).2.1 (acc s1.m (ask f)).2.2).out)).drew)
           have C9 := lh (C8.out.only ok_ NCK)
           clear ok_ hr8 hf8 hkf8 hk8
           generalize (V8.setCell ⟨gK, k0 * 7 + 6, none⟩ (.int .u32 (tell f (acc s1.m (ask f)).2.1 (acc s1.m (ask f)).2.2).out)).drew = V9 at RR9 FF9 KK9 OO9 BK9 C9 ⊢
           have hr9 := RR9.out.cell
           have hc9 : V9.cell? ⟨gC, t, none⟩ = some (.int .i64 k0) := (C9.out.cell t).trans (I6.out.call t k0 HK0.out)
           have hc9f := C9.out.frozen
           go_wp2
           have hfe := flatK_end s1.calls k0 s1.calls[k0] (s1.steps.length) (tell f (acc s1.m (ask f)).2.1 (acc s1.m (ask f)).2.2) (List.getElem?_eq_getElem HKL.out)
           have KE : Row V9 base 50 7 ⟨some ⟨gK, 0, none⟩, KN, KC⟩ s1.calls.length (flatK (s1.calls.set k0 (endK s1.calls[k0] s1.steps.length (tell f (acc s1.m (ask f)).2.1 (acc s1.m (ask f)).2.2)))) := by rw [<- hfe]; exact KK9.out
           have I9 := Ir.endd (l := s1.calls.set k0 (endK s1.calls[k0] s1.steps.length (tell f (acc s1.m (ask f)).2.1 (acc s1.m (ask f)).2.2))) I6.out (OO9.out.mono (fun g hg => ⟨_, rfl, hg⟩)) KE (List.length_set ..)
           have O10 : Only (fun g => g = gC) V9 (V9.setCell ⟨gC, t, none⟩ (.int .i64 (-1))) := Only.set_ (Only.refl (fun g => g = gC) V9) ⟨gC, t, none⟩ (.inl rfl) _
           have I10 := Ir.calld (x := -1) I9 ht O10 (C9.out.set_ t _)
           have B9 : Below base V6 V9 := OO9.out.below I6.out.low.1 (fun g hg => (I6.out.hK.lt ⟨_, rfl, hg⟩).1)
           have HW10 := (HW6.out.trans B9).trans (O10.below I9.low.1 (fun g hg => by rw [hg]; exact I6.out.low.2.2.2.1))
           have I11 : Ir (V9.setCell ⟨gC, t, none⟩ (.int .i64 (-1))) base gR gO gC gA co cc ca k K T M r2 s4 ⟨some ⟨gK, 0, none⟩, KN, KC⟩ (setsA cO1 (t * 24) ((tell f (acc s1.m (ask f)).2.1 (acc s1.m (ask f)).2.2).v q')) (cC1.setIfInBounds t (.int .i64 (-1))) cA1 (qs1.set t q') (goR ask tell s1 t) := by
             rw [goR_yes HF0.out HK0.out (List.getElem?_eq_getElem HKL.out) HPC.out]
             exact I10
           go_ret
           exact ⟨⟨_, _, _, _, _, _, _, I11⟩, rfl, HW10⟩
         · have hpb : ((tell f (acc s1.m (ask f)).2.1 (acc s1.m (ask f)).2.2).pc == 0) = false := beq_false_of_ne hpc
           have I7 : Ir V6 base gR gO gC gA co cc ca k K T M r2 s4 sK1 (setsA cO1 (t * 24) ((tell f (acc s1.m (ask f)).2.1 (acc s1.m (ask f)).2.2).v q')) cC1 cA1 (qs1.set t q') (goR ask tell s1 t) := by
             rw [goR_no HF0.out hpc]
             exact I6.out
           have I7 := lh I7
           go_wp2
           go_ret
           exact ⟨⟨_, _, _, _, _, _, _, I7.out⟩, rfl, HW6.out⟩

end Go.Proofs.YtffppdcpiieapaaGreat.Machc
