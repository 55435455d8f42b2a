/- A part of the proof. -/
import Derived.Test.YtffppdcpiieapaaGreatP14
import Derived.Test.YtffppdcpiieapaaGreatP15
import Derived.Test.YtffppdcpiieapaaGreatP18
namespace Go.Proofs.YtffppdcpiieapaaGreat.Arenac
open Go.RowKit Memc Procc Machc Drivec Wordc
set_option linter.unusedVariables false
set_option maxRecDepth 100000

def okE (i kd vl d : Int) : Prop := (kd = 3 \/ kd = 6 \/ kd = 7 \/ kd = 8) /\ 0 <= vl /\ vl <= 4294967295 /\ 0 <= i /\ i <= 100
theorem ep_meets (k : Int) (K T M : Nat) (t1 : 1 <= T) (t2 : T <= 8) (m1 : 2 <= M) (m2 : M <= 64) (gO gT gC : Nat) (i kd vl d : Int) (hkd : okE i kd vl d) : Meets 16 [⟨gO, 46, #[.int .i64 kd, .int .u32 vl]⟩, ⟨gT, 3, #[.int .i64 i]⟩, ⟨gC, 23, #[.int .i64 k, .int .i64 K, .int .i64 T, .int .i64 M]⟩] ((docZ k K T M).plan ((docZ k K T M).bg i kd vl d)) := by
 refine ⟨enters_ep, ?_⟩
 intro w base gn gp gm gx P s fs ask ov cd ou hn hp hm hx hq hr hl hg hk hlt
 have E : Env w base gn gp gm gx P 0 _ s fs ask ov cd ou := ⟨hn, hp, hm, hx, hq, hr, hl, Nat.zero_le _⟩
 have hO := hk _ (List.mem_cons_self ..)
 have hT := hk _ (List.mem_cons_of_mem _ (List.mem_cons_self ..))
 have hC := hk _ (List.mem_cons_of_mem _ (List.mem_cons_of_mem _ (List.mem_cons_self ..)))
 obtain ⟨c, hc⟩ : ∃ c : Cx, c = ⟨base, gn, gp, gm, gx, P, .func (.func 16) #[] (([⟨gO, 46, #[.int .i64 kd, .int .u32 vl]⟩, ⟨gT, 3, #[.int .i64 i]⟩, ⟨gC, 23, #[.int .i64 k, .int .i64 K, .int .i64 T, .int .i64 M]⟩] : List Cap1).map Cap1.ptr).toArray, s, fs, ask, ov, cd, ou, k, K, T, M, (docZ k K T M).bg i kd vl d, w⟩ := ⟨_, rfl⟩
 have hA : Calls Tryz.prog 16 #[c.doer, .pointer (some ⟨gO, 0, none⟩), .pointer (some ⟨gT, 0, none⟩), .pointer (some ⟨gC, 0, none⟩)] c.W0 (c.Over (.tuple #[.int .i64 0, .int .u32 0])) := by
   have hok : c.Ok := by rw [hc]; exact fun x hx => hg.2 x hx
   have hg' : Going ((docZ c.kk c.K c.T c.M).plan c.f0) c.fs := by rw [hc]; exact hg
   have h0 : c.At 0 c.f0 c.W0 := by rw [hc]; exact ⟨E, Only.refl _ _, rfl⟩
   obtain ⟨hkd, v0, v1, _, _⟩ := hkd
   have t1' : 1 <= c.T := by rw [hc]; exact t1
   have t2' : c.T <= 8 := by rw [hc]; exact t2
   have m1' : 2 <= c.M := by rw [hc]; exact m1
   have m2' : c.M <= 64 := by rw [hc]; exact m2
   have hC' : Blk c.W0 gC 23 #[.int .i64 c.kk, .int .i64 c.K, .int .i64 c.T, .int .i64 c.M] := by rw [hc]; exact hC
   have hT' : Blk c.W0 gT 3 #[.int .i64 i] := by rw [hc]; exact hT
   have hO' : Blk c.W0 gO 46 #[.int .i64 kd, .int .u32 vl] := by rw [hc]; exact hO
   have hf0 : c.f0 = docBg c.kk c.K c.M i kd vl d := by rw [hc]; rfl
   rcases hkd with rfl | rfl | rfl | rfl
   · exact ep_walk3 c hok hg' h0 i vl d hf0 v0 v1 t1' t2' m1' m2' gO gT gC hO' hT' hC'
   · exact ep_walk6 c hok hg' h0 i vl d hf0 v0 v1 t1' t2' m1' m2' gO gT gC hO' hT' hC'
   · exact ep_walk7 c hok hg' h0 i vl d hf0 v0 v1 t1' t2' m1' m2' gO gT gC hO' hT' hC'
   · exact ep_walk8 c hok hg' h0 i vl d hf0 v0 v1 t1' t2' m1' m2' gO gT gC hO' hT' hC'
 rw [hc] at hA
 refine ⟨fun a ha => hA.mono ?_, fun cd' ou' hfi => hA.mono ?_⟩
 · rintro e w' (⟨a', h1, h2⟩ | ⟨_, _, h3⟩)
   · have h1' : (docZ k K T M).plan ((docZ k K T M).bg i kd vl d) fs = .ask a' := h1
     rw [ha] at h1'
     injection h1' with h1'
     subst h1'
     exact h2
   · have h3' : (docZ k K T M).plan ((docZ k K T M).bg i kd vl d) fs = .fin 0 0 := h3
     rw [ha] at h3'
     cases h3'
 · rintro e w' (⟨a', h1, h2⟩ | ⟨h1, h2, h3⟩)
   · have h1' : (docZ k K T M).plan ((docZ k K T M).bg i kd vl d) fs = .ask a' := h1
     rw [hfi] at h1'
     cases h1'
   · have h3' : (docZ k K T M).plan ((docZ k K T M).bg i kd vl d) fs = .fin 0 0 := h3
     rw [hfi] at h3'
     injection h3' with h4 h5
     subst h4 h5
     exact ⟨h1, h2⟩
set_option maxHeartbeats 1000000 in
theorem runE_begins (gc : Nat) (k : Int) (K T M : Nat) (t1 : 1 <= T) (t2 : T <= 8) (m1 : 2 <= M) (m2 : M <= 64) : Begins 14 [⟨gc, 23, #[.int .i64 k, .int .i64 K, .int .i64 T, .int .i64 M]⟩] okE (fun i kd vl d => (docZ k K T M).plan ((docZ k K T M).bg i kd vl d)) := by
 refine ⟨enters_er, ?_⟩
 rintro w i kd vl d hok hk
 have hmf : ∀ (fn : Fn) (first cap : Array Value) (w : World), (Instr.makeFunc fn first cap).run Tryz.prog w = .ok (.func fn first cap) w := fun _ _ _ _ => rfl
 have hC : Blk w gc 23 #[.int .i64 k, .int .i64 K, .int .i64 T, .int .i64 M] := hk ⟨gc, 23, #[.int .i64 k, .int .i64 K, .int .i64 T, .int .i64 M]⟩ (List.mem_singleton.2 rfl)
 have HC := lh hC
 have HOK := lh hok
 clear hC hk hok
 show Calls Tryz.prog 14 #[.int .i64 i, .agg #[.int .i64 kd, .int .u32 vl], .int .u32 d, .pointer (some ⟨gc, 0, none⟩)] w _
 go_enter Tryz.func14, Tryz.ntmps14
 go_wp2_with (go_at_call 15; (with_reducible refine (proc_g _ 16 #[.pointer (some ⟨w.heap.size + 1, 0, none⟩), .pointer (some ⟨w.heap.size, 0, none⟩), .pointer (some ⟨gc, 0, none⟩)]).mono ?_); rintro e w1 ⟨rfl, rfl⟩)
 go_ret
 have hlt := HC.out.lt
 refine ⟨_, 16, [⟨w.heap.size + 1, 46, #[.int .i64 kd, .int .u32 vl]⟩, ⟨w.heap.size, 3, #[.int .i64 i]⟩, ⟨gc, 23, #[.int .i64 k, .int .i64 K, .int .i64 T, .int .i64 M]⟩], rfl, blk_at2 _ _ _ _ (by simp), (fun x hx => ?_), (fun x hx => ?_), ep_meets k K T M t1 t2 m1 m2 _ _ _ i kd vl d HOK.out, (by first | omega | (simp; omega) | simp), (((Below.refl _ _).alloc (Nat.le_refl _) _).alloc (by first | omega | (simp; done) | (simp; omega)) _).alloc (by first | omega | (simp; done) | (simp; omega)) _⟩
 · simp only [List.mem_cons, List.not_mem_nil, or_false] at hx
   rcases hx with rfl | rfl | rfl
   · exact (blk_at2 _ _ _ _ (by simp)).alloc _
   · exact ((Blk.new _ _ _).alloc _).alloc _
   · exact ((HC.out.alloc _).alloc _).alloc _
 · simp only [List.mem_cons, List.not_mem_nil, or_false] at hx
   rcases hx with rfl | rfl | rfl
   all_goals simp
structure GE (T : Nat) (f : FS) : Prop where
 w : W64 f.w
 l : W64 f.l
 g : W64 f.g
 s : W64 f.s
 give : W64 f.give
 chain : 0 <= f.chain /\ f.chain <= 4294967295
 pos : 0 <= f.pos /\ f.pos <= T
 t : 0 <= f.t /\ f.t <= 100
 hold : f.hold = 0
 seen : f.seen = []
 pc : (f.kd = 6 /\ (f.pc = 1 \/ f.pc = 2 \/ f.pc = 3 \/ f.pc = 0)) \/ (f.kd = 7 /\ (f.pc = 4 \/ f.pc = 0)) \/
   ((f.kd = 8 \/ f.kd = 3) /\ f.behind = (if f.kd = 8 then 81 else 0) /\ (f.pc = 86 \/ (f.back = 87 /\ (f.pc = 95 \/ f.pc = 96 \/ f.pc = 97)))) \/
   (f.kd = 8 /\ (f.pc = 80 \/ f.pc = 81 \/ f.pc = 82 \/ f.pc = 83 \/ f.pc = 84 \/ f.pc = 0)) \/
   (f.kd = 3 /\ (f.pc = 30 \/ (f.pc = 31 /\ f.pos + 1 <= T) \/ f.pc = 32 \/ f.pc = 33 \/ f.pc = 34 \/ f.pc = 35 \/ f.pc = 0))
theorem chained_ok {T : Nat} {f : FS} {ch bh : Int} (hg : GE T f) (c0 : 0 <= ch) (c1 : ch <= 4294967295) (h : (f.kd = 8 /\ bh = 81) \/ (f.kd = 3 /\ bh = 0)) : GE T (f.chained ch bh) := by
 have e : GE T ({ f with chain := ch, behind := bh, pc := if ch = 0 then bh else 86 } : FS) := by
   refine { hg with chain := ⟨c0, c1⟩, pc := ?_ }
   by_cases hc : ch = 0
   · rw [if_pos hc]
     rcases h with ⟨hk, rfl⟩ | ⟨hk, rfl⟩
     · exact .inr (.inr (.inr (.inl ⟨hk, by simp⟩)))
     · exact .inr (.inr (.inr (.inr ⟨hk, by simp⟩)))
   · rw [if_neg hc]
     rcases h with ⟨hk, rfl⟩ | ⟨hk, rfl⟩
     · exact .inr (.inr (.inl ⟨.inl hk, by show (81 : Int) = if f.kd = 8 then 81 else 0; rw [if_pos hk], .inl rfl⟩))
     · exact .inr (.inr (.inl ⟨.inr hk, by show (0 : Int) = if f.kd = 8 then 81 else 0; rw [if_neg (by rw [hk]; decide)], .inl rfl⟩))
 exact e
theorem behind_cases {T : Nat} {f : FS} (hk : f.kd = 8 \/ f.kd = 3) (hb : f.behind = (if f.kd = 8 then 81 else 0)) : (f.kd = 8 /\ f.behind = 81) \/ (f.kd = 3 /\ f.behind = 0) := by
 rcases hk with hk | hk
 · rw [if_pos hk] at hb; exact .inl ⟨hk, hb⟩
 · rw [if_neg (by rw [hk]; decide)] at hb; exact .inr ⟨hk, hb⟩
theorem w64_lo {x : Int} : 0 <= lo x /\ lo x <= 4294967295 := by unfold lo; omega
theorem w64_pk {h l : Int} (h0 : 0 <= h /\ h <= 4294967295) (l0 : 0 <= l /\ l <= 4294967295) : W64 (pk h l) := ⟨by unfold pk; omega, by unfold pk; omega⟩
theorem w64_hi {x : Int} (h : W64 x) : 0 <= hi x /\ hi x <= 4294967295 := by obtain ⟨a, b⟩ := h; unfold hi; omega
set_option maxHeartbeats 1000000 in
theorem ep_ok (k : Int) (K T M : Nat) (t1 : 1 <= T) (t2 : T <= 8) (m1 : 2 <= M) (m2 : M <= 64) : MacOk (docZ k K T M) okE (GE T) where
 bg := by
   rintro i kd vl d ⟨hkd, v0, v1, i0, i1⟩
   have h0 : W64 0 := ⟨Int.le_refl _, by decide⟩
   have m3 : 0 <= vl % (M : Int) := Int.emod_nonneg _ (by omega)
   have m4 : vl % (M : Int) < M := Int.emod_lt_of_pos _ (by omega)
   have hc : (0 : Int) <= 0 /\ (0 : Int) <= 4294967295 := by decide
   have hp : (0 : Int) <= 0 /\ (0 : Int) <= (T : Int) := ⟨Int.le_refl _, by omega⟩
   have hz : (docZ k K T M).bg i kd vl d = docBg k K M i kd vl d := rfl
   rw [hz]
   rcases hkd with rfl | rfl | rfl | rfl
   · rw [bg3]
     exact ⟨⟨h0, h0, h0, h0, h0, hc, hp, ⟨i0, i1⟩, rfl, rfl, .inr (.inr (.inr (.inr ⟨rfl, .inl rfl⟩)))⟩, by simp⟩
   · rw [bg6]
     exact ⟨⟨h0, h0, h0, h0, h0, hc, hp, ⟨i0, i1⟩, rfl, rfl, .inl ⟨rfl, .inl rfl⟩⟩, by simp⟩
   · rw [bg7]
     exact ⟨⟨h0, h0, h0, h0, h0, hc, hp, ⟨i0, i1⟩, rfl, rfl, .inr (.inl ⟨rfl, .inl rfl⟩)⟩, by simp⟩
   · rw [bg8]
     exact ⟨⟨h0, h0, h0, ⟨by show 0 <= vl % (M : Int) + 1; omega, by show vl % (M : Int) + 1 <= _; omega⟩, h0, hc, hp, ⟨i0, i1⟩, rfl, rfl, .inr (.inr (.inr (.inl ⟨rfl, .inl rfl⟩)))⟩, by simp⟩
 ask := by
   intro f hg hp
   have hw := hg.w
   have hl := hg.l
   have hgg := hg.g
   have hs := hg.s
   have hv := hg.give
   have hc := hg.chain
   have hpos := hg.pos
   have ht := hg.t
   unfold W64 at hw hl hgg hs hv
   show (docAsk k K M f).ok
   rcases hg.pc with ⟨hk, h | h | h | h⟩ | ⟨hk, h | h⟩ | ⟨hk, hb, h | ⟨h87, h | h | h⟩⟩ | ⟨hk, h | h | h | h | h | h⟩ | ⟨hk, h | ⟨h, hps⟩ | h | h | h | h | h⟩
   · rw [ask1 h]; unfold Acc.ok; dsimp only; (try unfold hnd); (try unfold pk); (try unfold up); (try unfold hi); (try unfold lo); (try unfold w64); omega
   · rw [ask2 h]; unfold Acc.ok; dsimp only; (try unfold hnd); (try unfold pk); (try unfold up); (try unfold hi); (try unfold lo); (try unfold w64); omega
   · rw [ask3 h]; unfold Acc.ok; dsimp only; (try unfold hnd); (try unfold pk); (try unfold up); (try unfold hi); (try unfold lo); (try unfold w64); omega
   · exact absurd h hp
   · rw [ask4 h]; unfold Acc.ok; dsimp only; (try unfold hnd); (try unfold pk); (try unfold up); (try unfold hi); (try unfold lo); (try unfold w64); omega
   · exact absurd h hp
   · rw [ask86 h]; unfold Acc.ok; dsimp only; (try unfold hnd); (try unfold pk); (try unfold up); (try unfold hi); (try unfold lo); (try unfold w64); omega
   · rw [ask95 h]; unfold Acc.ok; dsimp only; (try unfold hnd); (try unfold pk); (try unfold up); (try unfold hi); (try unfold lo); (try unfold w64); omega
   · rw [ask96 h]; unfold Acc.ok; dsimp only; (try unfold hnd); (try unfold pk); (try unfold up); (try unfold hi); (try unfold lo); (try unfold w64); omega
   · rw [ask97 h]; unfold Acc.ok; dsimp only; (try unfold hnd); (try unfold pk); (try unfold up); (try unfold hi); (try unfold lo); (try unfold w64); omega
   · rw [ask80 h]; unfold Acc.ok; dsimp only; (try unfold hnd); (try unfold pk); (try unfold up); (try unfold hi); (try unfold lo); (try unfold w64); omega
   · rw [ask81 h]; unfold Acc.ok; dsimp only; (try unfold hnd); (try unfold pk); (try unfold up); (try unfold hi); (try unfold lo); (try unfold w64); omega
   · rw [ask82 h]; unfold Acc.ok; dsimp only; (try unfold hnd); (try unfold pk); (try unfold up); (try unfold hi); (try unfold lo); (try unfold w64); omega
   · rw [ask83 h]; unfold Acc.ok; dsimp only; (try unfold hnd); (try unfold pk); (try unfold up); (try unfold hi); (try unfold lo); (try unfold w64); omega
   · rw [ask84 h]; unfold Acc.ok; dsimp only; (try unfold hnd); (try unfold pk); (try unfold up); (try unfold hi); (try unfold lo); (try unfold w64); omega
   · exact absurd h hp
   · rw [ask30 h]; unfold Acc.ok; dsimp only; (try unfold hnd); (try unfold pk); (try unfold up); (try unfold hi); (try unfold lo); (try unfold w64); omega
   · rw [ask31 h]; unfold Acc.ok; dsimp only; (try unfold hnd); (try unfold pk); (try unfold up); (try unfold hi); (try unfold lo); (try unfold w64); omega
   · rw [ask32 h]; unfold Acc.ok; dsimp only; (try unfold hnd); (try unfold pk); (try unfold up); (try unfold hi); (try unfold lo); (try unfold w64); omega
   · rw [ask33 h]; unfold Acc.ok; dsimp only; (try unfold hnd); (try unfold pk); (try unfold up); (try unfold hi); (try unfold lo); (try unfold w64); omega
   · rw [ask34 h]; unfold Acc.ok; dsimp only; (try unfold hnd); (try unfold pk); (try unfold up); (try unfold hi); (try unfold lo); (try unfold w64); omega
   · rw [ask35 h]; unfold Acc.ok; dsimp only; (try unfold hnd); (try unfold pk); (try unfold up); (try unfold hi); (try unfold lo); (try unfold w64); omega
   · exact absurd h hp
 tell := by
   intro f was dn hg hp w0 w1
   have hx : W64 was := ⟨w0, w1⟩
   show GE T (docTell k K T M f was dn)
   rcases hg.pc with ⟨hk, h | h | h | h⟩ | ⟨hk, h | h⟩ | ⟨hk, hb, h | ⟨h87, h | h | h⟩⟩ | ⟨hk, h | h | h | h | h | h⟩ | ⟨hk, h | ⟨h, hps⟩ | h | h | h | h | h⟩
   · rw [tell1 was dn h]; exact { hg with g := hx, pc := .inl ⟨hk, .inr (.inl rfl)⟩ }
   · rw [tell2 was dn h]; exact { hg with pc := .inl ⟨hk, .inr (.inr (.inl rfl))⟩ }
   · rw [tell3 was dn h]
     split
     · exact { hg with g := hx, pc := .inl ⟨hk, .inr (.inl rfl)⟩ }
     · exact { hg with pc := .inl ⟨hk, .inr (.inr (.inr rfl))⟩ }
   · exact absurd h hp
   · rw [tell4 was dn h]; exact { hg with pc := .inr (.inl ⟨hk, .inr rfl⟩) }
   · exact absurd h hp
   · rw [tell86 was dn h]; exact { hg with chain := w64_lo, give := w64_pk (w64_hi hx) hg.chain, pc := .inr (.inr (.inl ⟨hk, hb, .inr ⟨rfl, .inl rfl⟩⟩)) }
   · rw [tell95 was dn h]; exact { hg with w := hx, pc := .inr (.inr (.inl ⟨hk, hb, .inr ⟨h87, .inr (.inl rfl)⟩⟩)) }
   · rw [tell96 was dn h]; exact { hg with pc := .inr (.inr (.inl ⟨hk, hb, .inr ⟨h87, .inr (.inr rfl)⟩⟩)) }
   · rw [tell97 was dn h, if_pos h87]
     split
     · exact chained_ok hg hg.chain.1 hg.chain.2 (behind_cases (T := T) hk hb)
     · exact { hg with pc := .inr (.inr (.inl ⟨hk, hb, .inr ⟨h87, .inl rfl⟩⟩)) }
   · rw [tell80 was dn h]; exact { hg with g := hx, pc := .inr (.inr (.inr (.inl ⟨hk, by simp⟩))) }
   · rw [tell81 was dn h]; refine { hg with w := hx, pc := .inr (.inr (.inr (.inl ⟨hk, ?_⟩))) }; simp only; split <;> simp
   · rw [tell82 was dn h]
     split
     · exact chained_ok hg w64_lo.1 w64_lo.2 (.inl ⟨hk, rfl⟩)
     · exact { hg with pc := .inr (.inr (.inr (.inl ⟨hk, by simp⟩))) }
   · rw [tell83 was dn h]; exact { hg with pc := .inr (.inr (.inr (.inl ⟨hk, by simp⟩))) }
   · rw [tell84 was dn h, if_pos hk]
     split
     · exact { hg with pc := .inr (.inr (.inr (.inl ⟨hk, by simp⟩))) }
     · exact { hg with pc := .inr (.inr (.inr (.inl ⟨hk, by simp⟩))) }
   · exact absurd h hp
   · rw [tell30 was dn h]; exact { hg with g := hx, pos := ⟨Int.le_refl _, by show (0 : Int) <= T; omega⟩, pc := .inr (.inr (.inr (.inr ⟨hk, .inr (.inl ⟨rfl, by show (0 : Int) + 1 <= T; omega⟩)⟩))) }
   · rw [tell31 was dn h]
     have hq := hg.pos
     split
     · exact { hg with pc := .inr (.inr (.inr (.inr ⟨hk, by simp⟩))) }
     · refine { hg with pos := ⟨by show 0 <= f.pos + 1; omega, hps⟩, pc := .inr (.inr (.inr (.inr ⟨hk, ?_⟩))) }
       show (if f.pos + 1 = (T : Int) then (32 : Int) else 31) = 30 \/ ((if f.pos + 1 = (T : Int) then (32 : Int) else 31) = 31 /\ f.pos + 1 + 1 <= T) \/ (if f.pos + 1 = (T : Int) then (32 : Int) else 31) = 32 \/ _
       by_cases hT : f.pos + 1 = T
       · rw [if_pos hT]; exact .inr (.inr (.inl rfl))
       · rw [if_neg hT]; exact .inr (.inl ⟨rfl, by omega⟩)
   · rw [tell32 was dn h]; exact { hg with pc := .inr (.inr (.inr (.inr ⟨hk, by simp⟩))) }
   · rw [tell33 was dn h]; exact { hg with g := hx, pc := .inr (.inr (.inr (.inr ⟨hk, by simp⟩))) }
   · rw [tell34 was dn h]; refine { hg with w := hx, pc := .inr (.inr (.inr (.inr ⟨hk, ?_⟩))) }; simp only; split <;> simp
   · rw [tell35 was dn h]
     split
     · exact chained_ok hg w64_lo.1 w64_lo.2 (.inr ⟨hk, rfl⟩)
     · exact { hg with pc := .inr (.inr (.inr (.inr ⟨hk, by simp⟩))) }
   · exact absurd h hp
end Go.Proofs.YtffppdcpiieapaaGreat.Arenac

namespace Go.Proofs.YtffppdcpiieapaaGreat.Drivec
open Go.RowKit Memc Procc Storec Refc Machc
set_option linter.unusedVariables false
set_option maxRecDepth 100000

def CallsOk (s : RS) : Prop := ∀ (i : Nat) (k : Nat), s.call[i]? = some (k : Int) -> k < s.calls.length
def StepsOk (s : RS) : Prop := ∀ x ∈ s.steps, St.ok x
theorem goR_steps (ask : FS -> Acc) (tell : FS -> Int -> Bool -> FS) (s : RS) (i : Nat) (f : FS) (hf : s.on[i]? = some f) :
   (goR ask tell s i).steps = s.steps ++ [⟨i, ask f, (acc s.m (ask f)).2.1, (acc s.m (ask f)).2.2⟩] := by
 have e1 : s.on.getD i FS.none = f := by rw [List.getD_eq_getElem?_getD, hf]; rfl
 unfold goR
 simp only [e1]
theorem goR_more {ask : FS -> Acc} {tell : FS -> Int -> Bool -> FS} {s : RS} {i : Nat} {f : FS} (hf : s.on[i]? = some f) (hm : s.m.ok) (hok : (ask f).ok) (hc : CallsOk s) (hs : StepsOk s) : CallsOk (goR ask tell s i) /\ StepsOk (goR ask tell s i) := by
 obtain ⟨e1, e2, e3, e4, e5, e6⟩ := goR_eq ask tell s i f hf
 refine ⟨fun j k hk => ?_, fun x hx => ?_⟩
 · rw [e6]
   rw [e3] at hk
   split at hk
   · by_cases hij : i = j
     · subst hij
       rcases Nat.lt_or_ge i s.call.length with h | h
       · rw [List.getElem?_set_self h] at hk
         have := Option.some.inj hk
         omega
       · rw [List.getElem?_eq_none (by rw [List.length_set]; exact h)] at hk
         cases hk
     · rw [List.getElem?_set_ne hij] at hk
       exact hc j k hk
   · exact hc j k hk
 · rw [goR_steps ask tell s i f hf] at hx
   rcases List.mem_append.1 hx with h | h
   · exact hs x h
   · rw [List.mem_singleton.1 h]
     have hw := acc_was s.m hm (ask f)
     exact ⟨hok, hw.1, hw.2⟩
theorem begR_calls {s : RS} (h : CallsOk s) (t : Nat) (next : FS) (kd vl : Int) : CallsOk (begR s t next kd vl) := fun j k hk => by
 show k < (s.calls ++ [_]).length
 rw [List.length_append]
 have hk' : (s.call.set t (s.calls.length : Int))[j]? = some (k : Int) := hk
 by_cases hij : t = j
 · subst hij
   rcases Nat.lt_or_ge t s.call.length with h1 | h1
   · rw [List.getElem?_set_self h1] at hk'
     have := Option.some.inj hk'
     simp
     omega
   · rw [List.getElem?_eq_none (by rw [List.length_set]; exact h1)] at hk'
     cases hk'
 · rw [List.getElem?_set_ne hij] at hk'
   have := h j k hk'
   simp
   omega
structure RunOk (G : FS -> Prop) (T : Nat) (ls : List (List (Int × Int))) (s : RS) : Prop where
 ok : OkR G T s
 at_ : AtR ls s
 calls : CallsOk s
 steps : StepsOk s
theorem RunOk.goes {Z : Mac} {ok : Int -> Int -> Int -> Int -> Prop} {G : FS -> Prop} {T : Nat} {ls : List (List (Int × Int))} {s : RS} (h : RunOk G T ls s) (hZ : MacOk Z ok G) (hT : ls.length = T) {t n : Nat} {l : List (Int × Int)} {o : Int × Int} (ht : t < T) (hl : ls[t]? = some l) (hn : s.at_[t]? = some (n : Int)) (ho : l[n]? = some o) {d : Int} (hok : ok t o.1 o.2 d) :
   ∃ (s2 : RS) (f : FS), ((0 <= s.call.getD t 0 /\ s2 = s) \/ (s.call.getD t 0 < 0 /\ true = true /\ s2 = begR s t (Z.bg t o.1 o.2 d) o.1 o.2)) /\ s2.on[t]? = some f /\ G f /\ ¬ f.pc = 0 /\ (∃ k0 : Nat, s2.call[t]? = some (k0 : Int) /\ k0 < s2.calls.length) /\ turnM Z ls s t d = goR Z.ask Z.tell s2 t /\ s2.steps.length = s.steps.length /\ s2.calls.length <= s.calls.length + 1 /\ s2.m = s.m := by
 rcases h.ok.call t ht with hc | ⟨k, hk⟩
 · have hb := hZ.bg t o.1 o.2 d hok
   refine ⟨begR s t (Z.bg t o.1 o.2 d) o.1 o.2, Z.bg t o.1 o.2 d, .inr ⟨by rw [List.getD_eq_getElem?_getD, hc]; decide, rfl, rfl⟩, List.getElem?_set_self (by have := h.ok.len.1; omega), hb.1, hb.2, ⟨s.calls.length, List.getElem?_set_self (by have := h.ok.len.2.1; omega), by show _ < (s.calls ++ [_]).length; simp⟩, turnM_beg d hl hc hn ho, rfl, by show (s.calls ++ [_]).length <= _; simp, rfl⟩
 · obtain ⟨f, hf⟩ : ∃ f, s.on[t]? = some f := ⟨_, List.getElem?_eq_getElem (by have := h.ok.len.1; omega)⟩
   have hg := h.ok.on t f ⟨k, hk⟩ hf
   exact ⟨s, f, .inl ⟨by rw [List.getD_eq_getElem?_getD, hk]; exact Int.natCast_nonneg k, rfl⟩, hf, hg.1, hg.2, ⟨k, hk, h.calls t k hk⟩, turnM_on d (by omega) hk, rfl, by omega, rfl⟩
theorem RunOk.goes_on {Z : Mac} {G : FS -> Prop} {T : Nat} {ls : List (List (Int × Int))} {s : RS} (h : RunOk G T ls s) (hT : ls.length = T) {t k : Nat} (ht : t < T) (hk : s.call[t]? = some (k : Int)) (d : Int) :
   ∃ f : FS, s.on[t]? = some f /\ G f /\ ¬ f.pc = 0 /\ k < s.calls.length /\ turnM Z ls s t d = goR Z.ask Z.tell s t := by
 obtain ⟨f, hf⟩ : ∃ f, s.on[t]? = some f := ⟨_, List.getElem?_eq_getElem (by have := h.ok.len.1; omega)⟩
 have hg := h.ok.on t f ⟨k, hk⟩ hf
 exact ⟨f, hf, hg.1, hg.2, h.calls t k hk, turnM_on d (by omega) hk⟩
theorem RunOk.turn {Z : Mac} {ok : Int -> Int -> Int -> Int -> Prop} {G : FS -> Prop} {T : Nat} {ls : List (List (Int × Int))} {s : RS} (h : RunOk G T ls s) (hZ : MacOk Z ok G) (hT : ls.length = T) (t d : Int) (hops : OkOps ok ls d) : RunOk G T ls (turnM Z ls s t d) := by
 have h1 := turnM_ok hZ hT h.ok h.at_ t d hops
 suffices hh : CallsOk (turnM Z ls s t d) /\ StepsOk (turnM Z ls s t d) from ⟨h1.1, h1.2.1, hh.1, hh.2⟩
 by_cases hoff : t < 0 \/ (ls.length : Int) <= t
 · rw [turnM_off d hoff]; exact ⟨h.calls, h.steps⟩
 · obtain ⟨i, rfl⟩ : ∃ i : Nat, t = i := ⟨t.toNat, by omega⟩
   have hi : i < ls.length := by omega
   obtain ⟨l, hl⟩ : ∃ l, ls[i]? = some l := ⟨_, List.getElem?_eq_getElem hi⟩
   obtain ⟨n, hn, hnl⟩ := h.at_ i l hl
   by_cases hlt : n < l.length
   · obtain ⟨o, ho⟩ : ∃ o, l[n]? = some o := ⟨_, List.getElem?_eq_getElem hlt⟩
     obtain ⟨s2, f, h2, hf, hg, hp, hc, ht, _, _, hm⟩ := h.goes hZ hT (by omega) hl hn ho (hops i l n o hl ho)
     rw [ht]
     have hm2 : s2.m.ok := by rw [hm]; exact h.ok.m
     rcases h2 with ⟨_, rfl⟩ | ⟨_, _, rfl⟩
     · exact goR_more hf hm2 (hZ.ask f hg hp) h.calls h.steps
     · exact goR_more hf hm2 (hZ.ask f hg hp) (begR_calls h.calls _ _ _ _) h.steps
   · rcases h.ok.call i (by omega) with hc | ⟨k, hk⟩
     · rw [turnM_none d hl hc hn (by omega)]; exact ⟨h.calls, h.steps⟩
     · obtain ⟨f, hf, hg, hp, _, ht⟩ := h.goes_on (Z := Z) hT (by omega) hk d
       rw [ht]
       exact goR_more hf h.ok.m (hZ.ask f hg hp) h.calls h.steps
theorem RunOk.first {G : FS -> Prop} {T : Nat} {ls : List (List (Int × Int))} {m : Memc.M} (hm : m.ok) (hT : ls.length = T) : RunOk G T ls (RS.first m T) where
 ok := ⟨hm, ⟨List.length_replicate .., List.length_replicate .., List.length_replicate ..⟩, (fun i f ⟨k, hk⟩ => by
   have hk' : (List.replicate T (-1 : Int))[i]? = some (k : Int) := hk
   rw [List.getElem?_replicate] at hk'
   split at hk'
   · have := Option.some.inj hk'; omega
   · cases hk'), fun i hi => .inl (by show (List.replicate T (-1 : Int))[i]? = _; rw [List.getElem?_replicate, if_pos hi])⟩
 at_ := fun i l hl => ⟨0, by
   show (List.replicate T (0 : Int))[i]? = _
   rw [List.getElem?_replicate, if_pos (by have := (List.getElem?_eq_some_iff.1 hl).1; omega)]; rfl, Nat.zero_le _⟩
 calls := fun i k hk => by
   have hk' : (List.replicate T (-1 : Int))[i]? = some (k : Int) := hk
   rw [List.getElem?_replicate] at hk'
   split at hk'
   · have := Option.some.inj hk'; omega
   · cases hk'
 steps := fun x hx => by cases hx
theorem RunOk.run {Z : Mac} {ok : Int -> Int -> Int -> Int -> Prop} {G : FS -> Prop} {T : Nat} {ls : List (List (Int × Int))} (hZ : MacOk Z ok G) (hT : ls.length = T) : ∀ (ps : List (Int × Int)) (s : RS), RunOk G T ls s -> (∀ p ∈ ps, OkOps ok ls p.2) -> RunOk G T ls (runM Z ls s ps)
 | [], s, h, _ => h
 | p :: ps, s, h, hops => RunOk.run hZ hT ps _ (h.turn hZ hT p.1 p.2 (hops p (List.mem_cons_self ..))) (fun q hq => hops q (List.mem_cons_of_mem _ hq))
theorem row_rdK {w : World} {base : Nat} {s : Sl} {l : List Ck} (h : Row w base 50 7 s l.length (flatK l)) : RdK w w.heap.size s l := by
 refine ⟨h.n_.1, h.n_.2.1, h.n_.2.2.1, fun hn => ?_⟩
 obtain ⟨g, hA, _, hlt, hc, _⟩ := h.at_ (by have := h.n_.1; omega)
 refine ⟨g, 0, hA, hlt, fun i x hx j v hj => ?_⟩
 have hi : i < l.length := (List.getElem?_eq_some_iff.1 hx).1
 have hj7 : j < 7 := (List.getElem?_eq_some_iff.1 hj).1
 have h1 := hc (i * 7 + j) (by omega)
 rw [flatK_get l i x j v hx hj] at h1
 rw [Nat.zero_add]
 exact h1
theorem row_rdT {w : World} {base : Nat} {s : Sl} {l : List St} (h : Row w base 68 8 s l.length (flatT l)) (hok : ∀ x ∈ l, St.ok x) : RdS w w.heap.size s l := row_rds h hok
end Go.Proofs.YtffppdcpiieapaaGreat.Drivec
