/- A part of the proof. -/
import Derived.Test.YtffppdcpiieapaaGreatP18
import Derived.Test.YtffppdcpiieapaaGreatP19
import Derived.Test.YtffppdcpiieapaaGreatP20
import Derived.Test.YtffppdcpiieapaaGreatP21
import Derived.Test.YtffppdcpiieapaaGreatP22
import Derived.Test.YtffppdcpiieapaaGreatP23
import Derived.Test.YtffppdcpiieapaaGreatP24
import Derived.Test.YtffppdcpiieapaaGreatP25
import Derived.Test.YtffppdcpiieapaaGreatP26
import Derived.Test.YtffppdcpiieapaaGreatP28
import Derived.Test.YtffppdcpiieapaaGreatP29
import Derived.Test.YtffppdcpiieapaaGreatP30
import Derived.Test.YtffppdcpiieapaaGreatP31
namespace Go.Proofs.YtffppdcpiieapaaGreat.Machc
open Go.RowKit Memc Newc Refc Drivec Procc Wordc Arenac
set_option linter.unusedVariables false
set_option maxRecDepth 100000

end Go.Proofs.YtffppdcpiieapaaGreat.Machc

namespace Go.Proofs.YtffppdcpiieapaaGreat.Machc
open Go.RowKit Memc Newc Refc Drivec Procc Wordc Arenac
set_option linter.unusedVariables false
set_option maxRecDepth 100000

theorem ep_docA (k : Int) (K T M : Nat) (t2 : T <= 8) (m1 : 2 <= M) (m2 : M <= 64) : DocA k K T M (docZ k K T M) (GE T) := by
 intro f hg hp W q hq
 obtain ⟨s0, s1⟩ := hg.s
 obtain ⟨v0, v1⟩ := hg.w
 obtain ⟨g0, g1⟩ := hg.g
 obtain ⟨e0, e1⟩ := hg.give
 obtain ⟨c0, c1⟩ := hg.chain
 have hz : (docZ k K T M).ask f = docAsk k K M f := rfl
 rw [hz]
 rcases hg.pc with ⟨hk, h | h | h | h⟩ | ⟨hk, h | h⟩ | ⟨hk, hb, h | ⟨h87, h | h | h⟩⟩ | ⟨hk, h | h | h | h | h | h⟩ | ⟨hk, h | ⟨h, hps⟩ | h | h | h | h | h⟩
 · rw [ask1 h]; exact ask1_c W k K T M f q h s0 s1 m1 m2
 · rw [ask2 h]; exact ask2_c W k K T M f q h s0 s1 m1 m2 g0 g1
 · rw [ask3 h]; exact ask3_c W k K T M f q h s0 s1 m1 m2
 · exact absurd h hp
 · rw [ask4 h]; exact ask4_c W k K T M f q h s0 s1 m1 m2
 · exact absurd h hp
 · rw [ask86 h]; exact ask86_c W k K T M f q h s0 s1 m1 m2 c0 c1
 · rw [ask95 h]; exact ask95_c W k K T M f q h s0 s1 m1 m2
 · rw [ask96 h]; exact ask96_c W k K T M f q h s0 s1 m1 m2 v0 v1 e0 e1
 · rw [ask97 h]; exact ask97_c W k K T M f q h s0 s1 m1 m2 v0 v1 e0 e1
 · rw [ask80 h]; exact ask80_c W k K T M f q h s0 s1 m1 m2
 · rw [ask81 h]; exact ask81_c W k K T M f q h s0 s1 m1 m2 g0 g1
 · rw [ask82 h]; exact ask82_c W k K T M f q h s0 s1 m1 m2 g0 g1 v0 v1
 · rw [ask83 h]; exact ask83_c W k K T M f q h s0 s1 m1 m2 v0 v1
 · rw [ask84 h]; exact ask84_c W k K T M f q h s0 s1 m1 m2 g0 g1 v0 v1
 · exact absurd h hp
 · rw [ask30 h]; exact ask30_c W k K T M f q h s0 s1 m1 m2
 · rw [ask31 h]; exact ask31_c W k K T M f q h s0 s1 m1 m2
 · rw [ask32 h]; exact ask32_c W k K T M f q h s0 s1 m1 m2 g0 g1
 · rw [ask33 h]; exact ask33_c W k K T M f q h s0 s1 m1 m2
 · rw [ask34 h]; exact ask34_c W k K T M f q h s0 s1 m1 m2 g0 g1
 · rw [ask35 h]; exact ask35_c W k K T M f q h s0 s1 m1 m2 g0 g1 v0 v1
 · exact absurd h hp
theorem ep_docT (k : Int) (K T M : Nat) (t1 : 1 <= T) (t2 : T <= 8) (m1 : 2 <= M) (m2 : M <= 64) : DocT k K T M (docZ k K T M) (GE T) := by
 intro f hg hp W q was dn u0 u1 hq
 obtain ⟨s0, s1⟩ := hg.s
 obtain ⟨v0, v1⟩ := hg.w
 obtain ⟨g0, g1⟩ := hg.g
 obtain ⟨c0, c1⟩ := hg.chain
 have hn := (ep_ok k K T M t1 t2 m1 m2).tell f was dn hg hp u0 u1
 have hz : (docZ k K T M).tell f was dn = docTell k K T M f was dn := rfl
 rw [hz] at hn ⊢
 have main : Calls Tryz.prog 61 #[.agg #[.int .i64 k, .int .i64 K, .int .i64 T, .int .i64 M], .agg (f.v q).toArray, .int .u64 was, .bool dn] W fun e w' => e = .returned (.agg ((docTell k K T M f was dn).v q).toArray) /\ Below W.heap.size W w' := by
   clear hn
   rcases hg.pc with ⟨hk, h | h | h | h⟩ | ⟨hk, h | h⟩ | ⟨hk, hb, h | ⟨h87, h | h | h⟩⟩ | ⟨hk, h | h | h | h | h | h⟩ | ⟨hk, h | ⟨h, hps⟩ | h | h | h | h | h⟩
   · exact tell1_c W k K T M f q was dn h s0 s1 m1 m2
   · exact tell2_c W k K T M f q was dn h s0 s1 m1 m2
   · by_cases hne : was = f.g
     · exact tell3h_c W k K T M f q was dn h s0 s1 m1 m2 hne hk
     · exact tell3a_c W k K T M f q was dn h s0 s1 m1 m2 hne
   · exact absurd h hp
   · exact tell4_c W k K T M f q was dn h s0 s1 m1 m2
   · exact absurd h hp
   · exact tell86_c W k K T M f q was dn h s0 s1 m1 m2 u0 u1 c0 c1
   · exact tell95_c W k K T M f q was dn h s0 s1 m1 m2
   · exact tell96_c W k K T M f q was dn h s0 s1 m1 m2
   · cases dn
     · exact tell97f_c W k K T M f q was false h s0 s1 m1 m2 rfl
     · exact tell97c_c W k K T M f q was true h s0 s1 m1 m2 rfl h87
   · exact tell80_c W k K T M f q was dn h s0 s1 m1 m2
   · by_cases hl : lo was = 0
     · exact tell81z_c W k K T M f q was dn h s0 s1 m1 m2 u0 u1 g0 g1 hl
     · by_cases hh : hi was = lo f.g
       · exact tell81s_c W k K T M f q was dn h s0 s1 m1 m2 u0 u1 g0 g1 hl hh
       · exact tell81n_c W k K T M f q was dn h s0 s1 m1 m2 u0 u1 g0 g1 hl hh
   · cases dn
     · exact tell82f_c W k K T M f q was false h s0 s1 m1 m2 rfl
     · exact tell82t_c W k K T M f q was true h s0 s1 m1 m2 v0 v1 rfl
   · exact tell83_c W k K T M f q was dn h s0 s1 m1 m2
   · cases dn
     · exact tell84f_c W k K T M f q was false h s0 s1 m1 m2 rfl
     · by_cases hk1 : k = 1
       · exact tell84q_c W k K T M f q was true h s0 s1 m1 m2 hk1 rfl hk
       · exact tell84r_c W k K T M f q was true h s0 s1 m1 m2 hk1 rfl hk
   · exact absurd h hp
   · exact tell30_c W k K T M f q was dn h s0 s1 m1 m2
   · obtain ⟨p0, p1⟩ := hg.pos
     have p2 : f.pos <= 100 := by omega
     by_cases h0 : was = 0
     · by_cases ht : f.pos + 1 = T
       · exact tell31ze_c W k K T M f q was dn h s0 s1 m1 m2 p0 p2 h0 ht
       · exact tell31zm_c W k K T M f q was dn h s0 s1 m1 m2 p0 p2 h0 ht
     · by_cases h1 : was = Arenac.w64 (f.g + 1)
       · by_cases ht : f.pos + 1 = T
         · exact tell31se_c W k K T M f q was dn h s0 s1 m1 m2 p0 p2 h0 h1 ht
         · exact tell31sm_c W k K T M f q was dn h s0 s1 m1 m2 p0 p2 h0 h1 ht
       · exact tell31a_c W k K T M f q was dn h s0 s1 m1 m2 h0 h1
   · exact tell32_c W k K T M f q was dn h s0 s1 m1 m2
   · exact tell33_c W k K T M f q was dn h s0 s1 m1 m2
   · by_cases hl : lo was = 0
     · exact tell34z_c W k K T M f q was dn h s0 s1 m1 m2 u0 u1 g0 g1 hl
     · by_cases hh : hi was + 2 > f.g
       · exact tell34n_c W k K T M f q was dn h s0 s1 m1 m2 u0 u1 g0 g1 hl hh
       · exact tell34s_c W k K T M f q was dn h s0 s1 m1 m2 u0 u1 g0 g1 hl hh
   · cases dn
     · exact tell35f_c W k K T M f q was false h s0 s1 m1 m2 rfl
     · exact tell35t_c W k K T M f q was true h s0 s1 m1 m2 v0 v1 rfl
   · exact absurd h hp
 refine main.mono (fun e w' he => ⟨q, he.1, ?_, he.2, fun _ _ h => h⟩)
 have e1 : (docTell k K T M f was dn).seen = f.seen := hn.seen.trans hg.seen.symm
 rw [e1]
 exact (hq.below he.2).more he.2.size
theorem ep_docB (k : Int) (K T M : Nat) (a1 : 1 <= K) (a2 : K <= 64) (m1 : 2 <= M) (m2 : M <= 64) : DocB k K T M (docZ k K T M) okE := by
 rintro i kd vl d ⟨hkd, v0, v1, i0, i1⟩ d0 d1
 rcases hkd with rfl | rfl | rfl | rfl
 · exact ⟨(congrArg FS.seen (bg3 k K M i vl d)).trans rfl, fun W => begin3_c W k K T M i vl d a1 a2 m1 m2 d0 d1 v0 v1⟩
 · exact ⟨(congrArg FS.seen (bg6 k K M i vl d)).trans rfl, fun W => begin6_c W k K T M i vl d a1 a2 m1 m2 d0 d1 v0 v1⟩
 · exact ⟨(congrArg FS.seen (bg7 k K M i vl d)).trans rfl, fun W => begin7_c W k K T M i vl d a1 a2 m1 m2 d0 d1 v0 v1⟩
 · exact ⟨(congrArg FS.seen (bg8 k K M i vl d)).trans rfl, fun W => begin8_c W k K T M i vl d a1 a2 m1 m2 d0 d1 v0 v1⟩
end Go.Proofs.YtffppdcpiieapaaGreat.Machc

namespace Go.Proofs.YtffppdcpiieapaaGreat.Arenac
open Go.RowKit Memc Procc Machc Drivec Wordc
set_option linter.unusedVariables false
set_option maxRecDepth 100000

def fgn (x : Int × Int) : Bool := !(x.1 == 4) && !(x.1 == 5)
def FoundO (w : World) (yes : Bool) (e : Ending) (w' : World) : Prop := (∃ n : Int, -1 <= n /\ n <= 9223372036854775807 /\ decide (0 <= n) = yes /\ e = .returned (.int .i64 n)) /\ Below w.heap.size w w'
end Go.Proofs.YtffppdcpiieapaaGreat.Arenac

namespace Go.Proofs.YtffppdcpiieapaaGreat.Arenac
open Go.RowKit Memc Newc Procc Machc Drivec Wordc
set_option linter.unusedVariables false
set_option maxRecDepth 100000

theorem RdO.up {w : World} {B C : Nat} {s : Sl} {l : List (Int × Int)} (h : RdO w B s l) (hB : B <= C) : RdO w C s l :=
 ⟨h.1, h.2.1, h.2.2.1, fun hn => by
   obtain ⟨b, off, e, hlt, hc⟩ := h.2.2.2 hn
   exact ⟨b, off, e, Nat.lt_of_lt_of_le hlt hB, hc⟩⟩
theorem RdLO.up {w : World} {B C : Nat} {s : Sl} {ls : List (List (Int × Int))} (h : RdLO w B s ls) (hB : B <= C) : RdLO w C s ls :=
 ⟨h.1, h.2.1, h.2.2.1, fun hn => by
   obtain ⟨b, off, e, hlt, hc⟩ := h.2.2.2 hn
   refine ⟨b, off, e, Nat.lt_of_lt_of_le hlt hB, fun i x hx => ?_⟩
   obtain ⟨so, h1, h2⟩ := hc i x hx
   exact ⟨so, h1, RdO.up h2 hB⟩⟩
theorem RdP.up {w : World} {B C : Nat} {s : Sl} {l : List (Int × Int)} (h : RdP w B s l) (hB : B <= C) : RdP w C s l :=
 ⟨h.1, h.2.1, h.2.2.1, h.2.2.2.1, fun hn => by
   obtain ⟨b, off, e, hlt, hc⟩ := h.2.2.2.2 hn
   exact ⟨b, off, e, Nat.lt_of_lt_of_le hlt hB, hc⟩⟩
def RanL (w : World) (s : RS) (e : Ending) (w' : World) : Prop :=
 ∃ (r : R) (sS sK : Sl) (base : Nat), e = .returned (.tuple #[.agg #[.slice sS.A sS.n sS.c, .slice sK.A sK.n sK.c, .int .u64 r.e, .int .u64 r.f, .slice r.L.A r.L.n r.L.c, .slice r.P.A r.P.n r.P.c, .int .u64 r.h, .int .u64 r.t, .slice r.K.A r.K.n r.K.c, .slice r.X.A r.X.n r.X.c, .slice r.S.A r.S.n r.S.c], .int .i64 0]) /\ Row w' base 68 8 sS s.steps.length (flatT s.steps) /\ Row w' base 50 7 sK s.calls.length (flatK s.calls) /\ Endw w' base r s.m /\ Below w.heap.size w w'
end Go.Proofs.YtffppdcpiieapaaGreat.Arenac

namespace Go.Proofs.YtffppdcpiieapaaGreat.Arenac
open Go.RowKit Memc Procc Machc Drivec Wordc
set_option linter.unusedVariables false
set_option maxRecDepth 100000

def fgnE (x : Int × Int) : Bool := !(x.1 == 6) && !(x.1 == 7) && !(x.1 == 8) && !(x.1 == 3)
theorem foreignE1_c (w : World) (kd vl : Int) : Calls Tryz.prog 27 #[.agg #[.int .i64 kd, .int .u32 vl]] w fun e w' => e = .returned (.bool (fgnE (kd, vl))) /\ Below w.heap.size w w' := by
 by_cases h6 : kd = 6
 · subst h6
   go_enter Tryz.func27, Tryz.ntmps27
   go_wp2
   go_ret
   exact ⟨rfl, (Below.refl _ _).alloc (Nat.le_refl _) _⟩
 by_cases h7 : kd = 7
 · subst h7
   go_enter Tryz.func27, Tryz.ntmps27
   go_wp2
   go_ret
   exact ⟨rfl, (Below.refl _ _).alloc (Nat.le_refl _) _⟩
 by_cases h8 : kd = 8
 · subst h8
   go_enter Tryz.func27, Tryz.ntmps27
   go_wp2
   go_ret
   exact ⟨rfl, (Below.refl _ _).alloc (Nat.le_refl _) _⟩
 by_cases h3 : kd = 3
 · subst h3
   go_enter Tryz.func27, Tryz.ntmps27
   go_wp2
   go_ret
   exact ⟨rfl, (Below.refl _ _).alloc (Nat.le_refl _) _⟩
 have e6 : (kd == 6) = false := beq_false_of_ne h6
 have e7 : (kd == 7) = false := beq_false_of_ne h7
 have e8 : (kd == 8) = false := beq_false_of_ne h8
 have e3 : (kd == 3) = false := beq_false_of_ne h3
 have hf : fgnE (kd, vl) = true := by simp [fgnE, e6, e7, e8, e3]
 rw [hf]
 clear hf h6 h7 h8 h3
 go_enter Tryz.func27, Tryz.ntmps27
 go_wp2
 go_ret
 exact ⟨rfl, (Below.refl _ _).alloc (Nat.le_refl _) _⟩
set_option maxHeartbeats 2000000 in
theorem index_OE (s : Sl) (w : World) (B : Nat) (l : List (Int × Int)) (h : RdO w B s l) (hB : B <= w.heap.size) :
   Calls Tryz.prog 49 #[.slice s.A s.n s.c, .func (.func 27) #[] #[]] w (FoundO w (l.any fgnE)) := by
 have hn0 : s.n <= maxLen := Nat.le_trans h.2.1 h.2.2.1
 have hn1 : (s.n : Int) <= 9223372036854775807 := by unfold maxLen at hn0; omega
 have HH := lh h
 have HNB := lh hB
 clear h hn0 hB
 go_enter Tryz.func49, Tryz.ntmps49
 go_wp2_with fail
 go_loopw [8] (fun i wr => ∃ j : Nat, i = .int .i64 j /\ j <= s.n /\ (∀ m x, m < j -> l[m]? = some x -> fgnE x = false) /\ Below w.heap.size w wr) (fun i _ => s.n - (intOf i).toNat)
 case atStart => exact ⟨0, rfl, Nat.zero_le _, fun m x hm => absurd hm (Nat.not_lt_zero _), Below.refl _ _⟩
 case round =>
   obtain ⟨j, rfl, hj, hall, hbw⟩ := hrel
   have HA := lh hall
   have HW := lh hbw
   clear hall hbw
   by_cases hlt : j < s.n
   · obtain ⟨b, off, hA, hbz, hc⟩ := HH.out.2.2.2 (by omega)
     obtain ⟨x, hx⟩ : ∃ x, l[j]? = some x := ⟨_, List.getElem?_eq_getElem (by have := HH.out.1; omega)⟩
     have hcc := hc j x hx
     have hold := fun o => HW.out.cell (p := ⟨b, o, none⟩) (Nat.lt_of_lt_of_le hbz HNB.out)
     have hc0 := (hold (off + j * 2)).trans hcc.1
     have hc1 := (hold (off + j * 2 + 1)).trans hcc.2
     have HX := lh hx
     have i0 : (0 : Int) <= j := by omega
     have i1 : (j : Int) < s.n := by omega
     obtain ⟨sA, sn, sc⟩ := s
     simp only at hA
     subst hA
     clear hc hx hcc hold
     obtain ⟨kd, vl⟩ := x
     simp only at hc0 hc1
     rcases hf : fgnE (kd, vl) with _ | _
     · have HF := lh hf
       clear hf
       go_wp2_with (go_at_call 27; (with_reducible refine (foreignE1_c _ kd vl).mono ?_); rw [HF.out]; rintro e w' ⟨rfl, hb⟩; go_must (have HB2 := lh hb); clear hb)
       go_round
       case rel =>
         refine ⟨j + 1, by go_num, by omega, fun m y hm hy => ?_, HW.out.trans (HB2.out.mono HW.out.size)⟩
         by_cases hmj : m = j
         · subst hmj
           rw [HX.out] at hy
           injection hy with hy
           rw [<- hy]
           exact HF.out
         · exact HA.out m y (by omega) hy
       case measure => simp [intOf]; omega
     · have HF := lh hf
       clear hf
       go_wp2_with (go_at_call 27; (with_reducible refine (foreignE1_c _ kd vl).mono ?_); rw [HF.out]; rintro e w' ⟨rfl, hb⟩; go_must (have HB2 := lh hb); clear hb)
       go_ret
       refine ⟨⟨j, by omega, by omega, ?_, rfl⟩, HW.out.trans (HB2.out.mono HW.out.size)⟩
       have hyt : l.any fgnE = true := List.any_eq_true.2 ⟨_, List.mem_of_getElem? HX.out, HF.out⟩
       rw [hyt]
       simp
   · obtain rfl : j = s.n := by omega
     go_wp2
     go_ret
     refine ⟨⟨-1, by omega, by omega, ?_, rfl⟩, HW.out⟩
     have hyf : l.any fgnE = false := by
       rw [List.any_eq_false]
       intro x hx
       obtain ⟨m, hm, rfl⟩ := List.getElem_of_mem hx
       have := HA.out m _ (by have := HH.out.1; omega) (List.getElem?_eq_getElem hm)
       simpa using this
     rw [hyf]
     rfl
set_option maxHeartbeats 2000000 in
theorem contains_OE (s : Sl) (w : World) (B : Nat) (l : List (Int × Int)) (h : RdO w B s l) (hB : B <= w.heap.size) :
   Calls Tryz.prog 26 #[.slice s.A s.n s.c, .func (.func 27) #[] #[]] w fun e w' => e = .returned (.bool (l.any fgnE)) /\ Below w.heap.size w w' := by
 have HC := lh (index_OE s w B l h hB)
 clear h hB
 go_enter Tryz.func26, Tryz.ntmps26
 go_wp2_with (go_at_call 49; refine (HC.out).mono ?_; rintro e w' ⟨⟨n, hn1, hn2, hn3, rfl⟩, hb⟩; have HN3 := lh (And.intro hn3 hb); clear hn3 hb)
 go_ret
 have h3 := HN3.out.1
 rw [<- h3]
 exact ⟨by simp, HN3.out.2⟩

def fgnL (l : List (Int × Int)) : Bool := l.any fgnE
theorem foreignE_c (s : Sl) (w : World) (B : Nat) (l : List (Int × Int)) (h : RdO w B s l) (hB : B <= w.heap.size) :
   Calls Tryz.prog 12 #[.slice s.A s.n s.c] w fun e w' => e = .returned (.bool (fgnL l)) /\ Below w.heap.size w w' := by
 have HC := lh (contains_OE s w B l h hB)
 clear h hB
 go_enter Tryz.func12, Tryz.ntmps12
 go_wp2_with (go_at_call 26; refine (HC.out).mono ?_; rintro e w' ⟨rfl, hb⟩; have HB := lh hb; clear hb)
 go_ret
 exact ⟨rfl, HB.out⟩
set_option maxHeartbeats 2000000 in
theorem index_LE (s : Sl) (w : World) (B : Nat) (ls : List (List (Int × Int))) (h : RdLO w B s ls) (hB : B <= w.heap.size) :
   Calls Tryz.prog 25 #[.slice s.A s.n s.c, .func (.func 12) #[] #[]] w (FoundO w (ls.any fgnL)) := by
 have hn0 : s.n <= maxLen := Nat.le_trans h.2.1 h.2.2.1
 have hn1 : (s.n : Int) <= 9223372036854775807 := by unfold maxLen at hn0; omega
 have HH := lh h
 have HNB := lh hB
 clear h hn0 hB
 go_enter Tryz.func25, Tryz.ntmps25
 go_wp2_with fail
 go_loopw [8] (fun i wr => ∃ j : Nat, i = .int .i64 j /\ j <= s.n /\ (∀ m x, m < j -> ls[m]? = some x -> fgnL x = false) /\ Below w.heap.size w wr) (fun i _ => s.n - (intOf i).toNat)
 case atStart => exact ⟨0, rfl, Nat.zero_le _, fun m x hm => absurd hm (Nat.not_lt_zero _), Below.refl _ _⟩
 case round =>
   obtain ⟨j, rfl, hj, hall, hbw⟩ := hrel
   have HA := lh hall
   have HW := lh hbw
   clear hall hbw
   by_cases hlt : j < s.n
   · obtain ⟨b, off, hA, hbz, hc⟩ := HH.out.2.2.2 (by omega)
     obtain ⟨x, hx⟩ : ∃ x, ls[j]? = some x := ⟨_, List.getElem?_eq_getElem (by have := HH.out.1; omega)⟩
     obtain ⟨so, hs1, hs2⟩ := hc j x hx
     have hc0 := (HW.out.cell (p := ⟨b, off + j, none⟩) (Nat.lt_of_lt_of_le hbz HNB.out)).trans hs1
     have HO := lh hs2
     have HX := lh hx
     have i0 : (0 : Int) <= j := by omega
     have i1 : (j : Int) < s.n := by omega
     obtain ⟨sA, sn, sc⟩ := s
     simp only at hA
     subst hA
     clear hc hx hs1 hs2
     rcases hf : fgnL x with _ | _
     · have HF := lh hf
       clear hf
       go_wp2_with (go_at_call 12; (with_reducible refine (foreignE_c so _ w.heap.size x ((RdO.up HO.out HNB.out).below HW.out) HW.out.size).mono ?_); rw [HF.out]; rintro e w' ⟨rfl, hb⟩; go_must (have HB2 := lh hb); clear hb)
       go_round
       case rel =>
         refine ⟨j + 1, by go_num, by omega, fun m y hm hy => ?_, HW.out.trans (HB2.out.mono HW.out.size)⟩
         by_cases hmj : m = j
         · subst hmj
           rw [HX.out] at hy
           injection hy with hy
           rw [<- hy]
           exact HF.out
         · exact HA.out m y (by omega) hy
       case measure => simp [intOf]; omega
     · have HF := lh hf
       clear hf
       go_wp2_with (go_at_call 12; (with_reducible refine (foreignE_c so _ w.heap.size x ((RdO.up HO.out HNB.out).below HW.out) HW.out.size).mono ?_); rw [HF.out]; rintro e w' ⟨rfl, hb⟩; go_must (have HB2 := lh hb); clear hb)
       go_ret
       refine ⟨⟨j, by omega, by omega, ?_, rfl⟩, HW.out.trans (HB2.out.mono HW.out.size)⟩
       have hyt : ls.any fgnL = true := List.any_eq_true.2 ⟨_, List.mem_of_getElem? HX.out, HF.out⟩
       rw [hyt]
       simp
   · obtain rfl : j = s.n := by omega
     go_wp2
     go_ret
     refine ⟨⟨-1, by omega, by omega, ?_, rfl⟩, HW.out⟩
     have hyf : ls.any fgnL = false := by
       rw [List.any_eq_false]
       intro x hx
       obtain ⟨m, hm, rfl⟩ := List.getElem_of_mem hx
       have := HA.out m _ (by have := HH.out.1; omega) (List.getElem?_eq_getElem hm)
       simpa using this
     rw [hyf]
     rfl
set_option maxHeartbeats 2000000 in
theorem contains_LE (s : Sl) (w : World) (B : Nat) (ls : List (List (Int × Int))) (h : RdLO w B s ls) (hB : B <= w.heap.size) :
   Calls Tryz.prog 11 #[.slice s.A s.n s.c, .func (.func 12) #[] #[]] w fun e w' => e = .returned (.bool (ls.any fgnL)) /\ Below w.heap.size w w' := by
 have HC := lh (index_LE s w B ls h hB)
 clear h hB
 go_enter Tryz.func11, Tryz.ntmps11
 go_wp2_with (go_at_call 25; refine (HC.out).mono ?_; rintro e w' ⟨⟨n, hn1, hn2, hn3, rfl⟩, hb⟩; have HN3 := lh (And.intro hn3 hb); clear hn3 hb)
 go_ret
 have h3 := HN3.out.1
 rw [<- h3]
 exact ⟨by simp, HN3.out.2⟩
end Go.Proofs.YtffppdcpiieapaaGreat.Arenac

namespace Go.Proofs.YtffppdcpiieapaaGreat.Drivec
open Go.RowKit Memc Procc Storec Newc
set_option linter.unusedVariables false
set_option maxRecDepth 100000

set_option maxHeartbeats 2000000 in
theorem drun_no (w : World) (k K T M : Int) (Bf : Nat) (bs : Array Value) (s p : Sl) (ns : List Nat) (h : Lens w s ns) (hps : p.n <= maxLen)
   (hno : ¬ ((Cfg.mk k K T M).may /\ (s.n : Int) = T /\ ns.any (fun x => decide (1000 < x)) = false /\ p.n <= 20000)) :
   Calls Tryz.prog 13 #[.agg #[.int .i64 k, .int .i64 K, .int .i64 T, .int .i64 M], .slice s.A s.n s.c, .slice p.A p.n p.c, .func (.func Bf) #[] bs] w fun e w' => e = .returned (.tuple #[.agg #[.slice none 0 0, .slice none 0 0, .int .u64 0, .int .u64 0, .slice none 0 0, .slice none 0 0, .int .u64 0, .int .u64 0, .slice none 0 0, .slice none 0 0, .slice none 0 0], .int .i64 1]) /\ Below w.heap.size w w' := by
 have W0 : Hid (Below w.heap.size w (((w.alloc (.cells #[.int .i64 k, .int .i64 K, .int .i64 T, .int .i64 M] 23)).alloc (.cells zT 35)).alloc (.cells #[.int .i64 0] 36))) := lh ((((Below.refl _ _).alloc (Nat.le_refl _) _).alloc (by simp) _).alloc (by simp; omega) _)
 have Y0 : Hid (Blk (((w.alloc (.cells #[.int .i64 k, .int .i64 K, .int .i64 T, .int .i64 M] 23)).alloc (.cells zT 35)).alloc (.cells #[.int .i64 0] 36)) (w.heap.size + 1) 35 #[.slice none 0 0, .slice none 0 0, .int .u64 0, .int .u64 0, .slice none 0 0, .slice none 0 0, .int .u64 0, .int .u64 0, .slice none 0 0, .slice none 0 0, .slice none 0 0]) := lh ((blk_at (by simp)).alloc _)
 have D0 : Hid (Blk (((w.alloc (.cells #[.int .i64 k, .int .i64 K, .int .i64 T, .int .i64 M] 23)).alloc (.cells zT 35)).alloc (.cells #[.int .i64 0] 36)) (w.heap.size + 1 + 1) 36 #[.int .i64 0]) := lh (blk_at (by simp))
 have HH := lh h
 have HN := lh hno
 clear h hno
 go_enter_defers Tryz.func13, Tryz.ntmps13
 go_wp2_with (go_at_call 28; go_must (refine (mayrun_no_Op _ k K T M s p ns (HH.out.below W0.out) hps HN.out).mono ?_); rintro e w1 ⟨rfl, hb1⟩; go_must (have Y1 := lh (Y0.out.below hb1 Y0.out.lt); have D1 := lh (D0.out.below hb1 D0.out.lt); have W1 := lh (W0.out.trans (hb1.mono W0.out.size)); have hy1 := Y1.out.cell; have hy1f := Y1.out.frozen; have hd1 := D1.out.cell; have hd1f := D1.out.frozen); clear hb1)
 have OE : Hid (Only (fun g => g = w.heap.size + 1 \/ g = w.heap.size + 1 + 1) w1 ((((((((((((w1.setCell ⟨w.heap.size + 1, 0, none⟩ (.slice none 0 0)).setCell ⟨w.heap.size + 1, 1, none⟩ (.slice none 0 0)).setCell ⟨w.heap.size + 1, 2, none⟩ (.int .u64 0)).setCell ⟨w.heap.size + 1, 3, none⟩ (.int .u64 0)).setCell ⟨w.heap.size + 1, 4, none⟩ (.slice none 0 0)).setCell ⟨w.heap.size + 1, 5, none⟩ (.slice none 0 0)).setCell ⟨w.heap.size + 1, 6, none⟩ (.int .u64 0)).setCell ⟨w.heap.size + 1, 7, none⟩ (.int .u64 0)).setCell ⟨w.heap.size + 1, 8, none⟩ (.slice none 0 0)).setCell ⟨w.heap.size + 1, 9, none⟩ (.slice none 0 0)).setCell ⟨w.heap.size + 1, 10, none⟩ (.slice none 0 0)).setCell ⟨w.heap.size + 1 + 1, 0, none⟩ (.int .i64 1))) := lh ((Only.set_ (Only.set_ (Only.set_ (Only.set_ (Only.set_ (Only.set_ (Only.set_ (Only.set_ (Only.set_ (Only.set_ (Only.set_ (Only.set_ (Only.refl (fun g => g = w.heap.size + 1 \/ g = w.heap.size + 1 + 1) w1) ⟨w.heap.size + 1, 0, none⟩ (.inl (.inl rfl)) (.slice none 0 0)) ⟨w.heap.size + 1, 1, none⟩ (.inl (.inl rfl)) (.slice none 0 0)) ⟨w.heap.size + 1, 2, none⟩ (.inl (.inl rfl)) (.int .u64 0)) ⟨w.heap.size + 1, 3, none⟩ (.inl (.inl rfl)) (.int .u64 0)) ⟨w.heap.size + 1, 4, none⟩ (.inl (.inl rfl)) (.slice none 0 0)) ⟨w.heap.size + 1, 5, none⟩ (.inl (.inl rfl)) (.slice none 0 0)) ⟨w.heap.size + 1, 6, none⟩ (.inl (.inl rfl)) (.int .u64 0)) ⟨w.heap.size + 1, 7, none⟩ (.inl (.inl rfl)) (.int .u64 0)) ⟨w.heap.size + 1, 8, none⟩ (.inl (.inl rfl)) (.slice none 0 0)) ⟨w.heap.size + 1, 9, none⟩ (.inl (.inl rfl)) (.slice none 0 0)) ⟨w.heap.size + 1, 10, none⟩ (.inl (.inl rfl)) (.slice none 0 0)) ⟨w.heap.size + 1 + 1, 0, none⟩ (.inl (.inr rfl)) (.int .i64 1)))
 have YE : Hid (Blk ((((((((((((w1.setCell ⟨w.heap.size + 1, 0, none⟩ (.slice none 0 0)).setCell ⟨w.heap.size + 1, 1, none⟩ (.slice none 0 0)).setCell ⟨w.heap.size + 1, 2, none⟩ (.int .u64 0)).setCell ⟨w.heap.size + 1, 3, none⟩ (.int .u64 0)).setCell ⟨w.heap.size + 1, 4, none⟩ (.slice none 0 0)).setCell ⟨w.heap.size + 1, 5, none⟩ (.slice none 0 0)).setCell ⟨w.heap.size + 1, 6, none⟩ (.int .u64 0)).setCell ⟨w.heap.size + 1, 7, none⟩ (.int .u64 0)).setCell ⟨w.heap.size + 1, 8, none⟩ (.slice none 0 0)).setCell ⟨w.heap.size + 1, 9, none⟩ (.slice none 0 0)).setCell ⟨w.heap.size + 1, 10, none⟩ (.slice none 0 0)).setCell ⟨w.heap.size + 1 + 1, 0, none⟩ (.int .i64 1)) (w.heap.size + 1) 35 #[.slice none 0 0, .slice none 0 0, .int .u64 0, .int .u64 0, .slice none 0 0, .slice none 0 0, .int .u64 0, .int .u64 0, .slice none 0 0, .slice none 0 0, .slice none 0 0]) := lh (by have h_ := (Blk.far (Blk.set_ (Blk.set_ (Blk.set_ (Blk.set_ (Blk.set_ (Blk.set_ (Blk.set_ (Blk.set_ (Blk.set_ (Blk.set_ (Blk.set_ Y1.out 0 (.slice none 0 0)) 1 (.slice none 0 0)) 2 (.int .u64 0)) 3 (.int .u64 0)) 4 (.slice none 0 0)) 5 (.slice none 0 0)) 6 (.int .u64 0)) 7 (.int .u64 0)) 8 (.slice none 0 0)) 9 (.slice none 0 0)) 10 (.slice none 0 0)) (p := ⟨w.heap.size + 1 + 1, 0, none⟩) (show ¬ w.heap.size + 1 = w.heap.size + 1 + 1 by omega) (.int .i64 1)); simpa only [uA, sZ, uC] using h_)
 have DE : Hid (Blk ((((((((((((w1.setCell ⟨w.heap.size + 1, 0, none⟩ (.slice none 0 0)).setCell ⟨w.heap.size + 1, 1, none⟩ (.slice none 0 0)).setCell ⟨w.heap.size + 1, 2, none⟩ (.int .u64 0)).setCell ⟨w.heap.size + 1, 3, none⟩ (.int .u64 0)).setCell ⟨w.heap.size + 1, 4, none⟩ (.slice none 0 0)).setCell ⟨w.heap.size + 1, 5, none⟩ (.slice none 0 0)).setCell ⟨w.heap.size + 1, 6, none⟩ (.int .u64 0)).setCell ⟨w.heap.size + 1, 7, none⟩ (.int .u64 0)).setCell ⟨w.heap.size + 1, 8, none⟩ (.slice none 0 0)).setCell ⟨w.heap.size + 1, 9, none⟩ (.slice none 0 0)).setCell ⟨w.heap.size + 1, 10, none⟩ (.slice none 0 0)).setCell ⟨w.heap.size + 1 + 1, 0, none⟩ (.int .i64 1)) (w.heap.size + 1 + 1) 36 #[.int .i64 1]) := lh (by have h_ := (Blk.set_ (Blk.far (Blk.far (Blk.far (Blk.far (Blk.far (Blk.far (Blk.far (Blk.far (Blk.far (Blk.far (Blk.far D1.out (p := ⟨w.heap.size + 1, 0, none⟩) (show ¬ w.heap.size + 1 + 1 = w.heap.size + 1 by omega) (.slice none 0 0)) (p := ⟨w.heap.size + 1, 1, none⟩) (show ¬ w.heap.size + 1 + 1 = w.heap.size + 1 by omega) (.slice none 0 0)) (p := ⟨w.heap.size + 1, 2, none⟩) (show ¬ w.heap.size + 1 + 1 = w.heap.size + 1 by omega) (.int .u64 0)) (p := ⟨w.heap.size + 1, 3, none⟩) (show ¬ w.heap.size + 1 + 1 = w.heap.size + 1 by omega) (.int .u64 0)) (p := ⟨w.heap.size + 1, 4, none⟩) (show ¬ w.heap.size + 1 + 1 = w.heap.size + 1 by omega) (.slice none 0 0)) (p := ⟨w.heap.size + 1, 5, none⟩) (show ¬ w.heap.size + 1 + 1 = w.heap.size + 1 by omega) (.slice none 0 0)) (p := ⟨w.heap.size + 1, 6, none⟩) (show ¬ w.heap.size + 1 + 1 = w.heap.size + 1 by omega) (.int .u64 0)) (p := ⟨w.heap.size + 1, 7, none⟩) (show ¬ w.heap.size + 1 + 1 = w.heap.size + 1 by omega) (.int .u64 0)) (p := ⟨w.heap.size + 1, 8, none⟩) (show ¬ w.heap.size + 1 + 1 = w.heap.size + 1 by omega) (.slice none 0 0)) (p := ⟨w.heap.size + 1, 9, none⟩) (show ¬ w.heap.size + 1 + 1 = w.heap.size + 1 by omega) (.slice none 0 0)) (p := ⟨w.heap.size + 1, 10, none⟩) (show ¬ w.heap.size + 1 + 1 = w.heap.size + 1 by omega) (.slice none 0 0)) 0 (.int .i64 1)); simpa only [uA, sZ, uC] using h_)
 clear hy1 hy1f hd1 hd1f
 generalize ((((((((((((w1.setCell ⟨w.heap.size + 1, 0, none⟩ (.slice none 0 0)).setCell ⟨w.heap.size + 1, 1, none⟩ (.slice none 0 0)).setCell ⟨w.heap.size + 1, 2, none⟩ (.int .u64 0)).setCell ⟨w.heap.size + 1, 3, none⟩ (.int .u64 0)).setCell ⟨w.heap.size + 1, 4, none⟩ (.slice none 0 0)).setCell ⟨w.heap.size + 1, 5, none⟩ (.slice none 0 0)).setCell ⟨w.heap.size + 1, 6, none⟩ (.int .u64 0)).setCell ⟨w.heap.size + 1, 7, none⟩ (.int .u64 0)).setCell ⟨w.heap.size + 1, 8, none⟩ (.slice none 0 0)).setCell ⟨w.heap.size + 1, 9, none⟩ (.slice none 0 0)).setCell ⟨w.heap.size + 1, 10, none⟩ (.slice none 0 0)).setCell ⟨w.heap.size + 1 + 1, 0, none⟩ (.int .i64 1)) = W8 at OE YE DE ⊢
 have hy8 := YE.out.cell
 have hd8 := DE.out.cell
 have HE := lh (W1.out.trans (OE.out.below W1.out.size (fun g hg => by omega)))
 clear OE
 simp [bodyPostD, Leaves, results, Tryz.results13, go_sem, hy8, hd8]
 exact HE.out
end Go.Proofs.YtffppdcpiieapaaGreat.Drivec

namespace Go.Proofs.YtffppdcpiieapaaGreat.Arenac
open Go.RowKit Memc Newc Procc Machc Drivec Wordc
set_option linter.unusedVariables false
set_option maxRecDepth 100000

theorem okE_of {ls : List (List (Int × Int))} {T : Nat} (hT : ls.length = T) (t2 : T <= 8) (hf : ∀ l ∈ ls, l.any fgnE = false) (hv : ∀ l ∈ ls, ∀ o ∈ l, 0 <= o.2 /\ o.2 <= 4294967295) (d : Int) : OkOps okE ls d := fun i l n o hi hn => by
 have hlm := List.mem_of_getElem? hi
 have hom := List.mem_of_getElem? hn
 have h1 := List.any_eq_false.1 (hf l hlm) o hom
 have hil : i < ls.length := (List.getElem?_eq_some_iff.1 hi).1
 refine ⟨?_, (hv l hlm o hom).1, (hv l hlm o hom).2, by omega, by omega⟩
 unfold fgnE at h1
 by_cases e3 : o.1 = 3
 · exact .inl e3
 · by_cases e6 : o.1 = 6
   · exact .inr (.inl e6)
   · by_cases e7 : o.1 = 7
     · exact .inr (.inr (.inl e7))
     · by_cases e8 : o.1 = 8
       · exact .inr (.inr (.inr e8))
       · exfalso
         apply h1
         simp [e3, e6, e7, e8]
set_option maxHeartbeats 4000000 in
theorem erun_c (w : World) (k : Int) (K T M : Nat) (bo oo oc : Nat) (pA : Option Addr) (pn pc : Nat) (ls : List (List (Int × Int))) (ps : List (Int × Int))
   (k1 : 1 <= k) (k2 : k <= 3) (a1 : 1 <= K) (a2 : K <= 64) (t1 : 1 <= T) (t2 : T <= 8) (m1 : 2 <= M) (m2 : M <= 64)
   (hl : RdLO w w.heap.size ⟨some ⟨bo, oo, none⟩, T, oc⟩ ls) (hle : ∀ x ∈ ls, x.length <= 1000) (hp : RdP w w.heap.size ⟨pA, pn, pc⟩ ps) (hpn : ps.length <= 20000)
   (hf : ∀ l ∈ ls, l.any fgnE = false) (hv : ∀ l ∈ ls, ∀ o ∈ l, 0 <= o.2 /\ o.2 <= 4294967295) :
   Calls Tryz.prog 6 #[.agg #[.int .i64 k, .int .i64 K, .int .i64 T, .int .i64 M], .slice (some ⟨bo, oo, none⟩) T oc, .slice pA pn pc] w (RanL w (runM (docZ k K T M) ls (RS.first (newM k K T M) T) ps)) := by
 have hmf : ∀ (fn : Fn) (first cap : Array Value) (w : World), (Instr.makeFunc fn first cap).run Tryz.prog w = .ok (.func fn first cap) w := fun _ _ _ _ => rfl
 have hok : ∀ p ∈ ps, OkOps okE ls p.2 := fun p _ => okE_of hl.1.symm t2 hf hv p.2
 have hany : ls.any fgnL = false := List.any_eq_false.2 (fun l hl' => by show ¬ l.any fgnE = true; rw [hf l hl']; decide)
 have hbz : bo < w.heap.size := by
   obtain ⟨b', off', e, hbB, hcell⟩ := hl.2.2.2 (by show 0 < T; omega)
   injection e with e
   injection e with e1 e2
   omega
 have hoc : T <= oc /\ oc <= maxLen := ⟨hl.2.1, hl.2.2.1⟩
 have W0 : Hid (Below w.heap.size w ((w.alloc (.cells #[.int .i64 k, .int .i64 K, .int .i64 T, .int .i64 M] 23)).alloc (.cells zT 35))) := lh (((Below.refl _ _).alloc (Nat.le_refl _) _).alloc (by simp) _)
 have X0 : Hid (Blk ((w.alloc (.cells #[.int .i64 k, .int .i64 K, .int .i64 T, .int .i64 M] 23)).alloc (.cells zT 35)) w.heap.size 23 #[.int .i64 k, .int .i64 K, .int .i64 T, .int .i64 M]) := lh ((Blk.new _ _ _).alloc _)
 have Y0 : Hid (Blk ((w.alloc (.cells #[.int .i64 k, .int .i64 K, .int .i64 T, .int .i64 M] 23)).alloc (.cells zT 35)) (w.heap.size + 1) 35 #[.slice none 0 0, .slice none 0 0, .int .u64 0, .int .u64 0, .slice none 0 0, .slice none 0 0, .int .u64 0, .int .u64 0, .slice none 0 0, .slice none 0 0, .slice none 0 0]) := lh (blk_at2 _ _ _ _ (by simp))
 have HL := lh hl
 have HP := lh hp
 have HREST := lh (And.intro hle (And.intro hpn (And.intro hok hoc)))
 clear hl hp hle hpn hok hf hv hoc
 go_enter Tryz.func6, Tryz.ntmps6
 go_wp2_with fail
 generalize ((w.alloc (.cells #[.int .i64 k, .int .i64 K, .int .i64 T, .int .i64 M] 23)).alloc (.cells zT 35)) = V at W0 X0 Y0 ⊢
 go_wp2_with (first
   | (go_at_call 11; (with_reducible refine (contains_LE ⟨some ⟨bo, oo, none⟩, T, oc⟩ _ w.heap.size ls (HL.out.below W0.out) W0.out.size).mono ?_); rw [hany]; rintro e wr ⟨rfl, hb⟩; go_must (have HW := lh hb; have WR := lh (W0.out.trans (hb.mono W0.out.size)); have X4 := lh (X0.out.below hb X0.out.lt); have Y4 := lh (Y0.out.below hb Y0.out.lt)); have hx4 := X4.out.cell; clear hb)
   | (go_at_call 13; go_must (refine (rung_c wr wr.heap.size 14 _ [⟨w.heap.size, 23, #[.int .i64 k, .int .i64 K, .int .i64 T, .int .i64 M]⟩] (docZ k K T M) okE (GE T) k K T M bo oo oc pA pn pc ls ps k1 k2 a1 a2 t1 t2 m1 m2 (RdLO.up (HL.out.below WR.out) WR.out.size) HREST.out.1 (RdP.up (HP.out.below WR.out) WR.out.size) HREST.out.2.1 (Nat.le_refl _) rfl (fun x hx => by rw [List.mem_singleton.1 hx]; exact X4.out) (fun x hx => by rw [List.mem_singleton.1 hx]; simp) (ep_ok k K T M t1 t2 m1 m2) (runE_begins w.heap.size k K T M t1 t2 m1 m2) HREST.out.2.2.1).mono ?_); rintro e w6 ⟨r, sS, sK, base, rfl, hS6, hK6, hE6, hF6⟩; go_must (have S6 := lh hS6; have K6 := lh hK6; have E6 := lh hE6; have F6 := lh (hF6.below (Nat.le_refl _)); have Y6 := lh (Y4.out.below F6.out Y4.out.lt); have hy6 := Y6.out.cell; have hy6f := Y6.out.frozen); clear hS6 hK6 hE6 hF6 hx4))
 have OE : Hid (Only (fun g => g = w.heap.size + 1) w6 (((((((((((w6.setCell ⟨(w.heap.size + 1), 0, none⟩ (.slice sS.A sS.n sS.c)).setCell ⟨(w.heap.size + 1), 1, none⟩ (.slice sK.A sK.n sK.c)).setCell ⟨(w.heap.size + 1), 2, none⟩ (.int .u64 r.e)).setCell ⟨(w.heap.size + 1), 3, none⟩ (.int .u64 r.f)).setCell ⟨(w.heap.size + 1), 4, none⟩ (.slice r.L.A r.L.n r.L.c)).setCell ⟨(w.heap.size + 1), 5, none⟩ (.slice r.P.A r.P.n r.P.c)).setCell ⟨(w.heap.size + 1), 6, none⟩ (.int .u64 r.h)).setCell ⟨(w.heap.size + 1), 7, none⟩ (.int .u64 r.t)).setCell ⟨(w.heap.size + 1), 8, none⟩ (.slice r.K.A r.K.n r.K.c)).setCell ⟨(w.heap.size + 1), 9, none⟩ (.slice r.X.A r.X.n r.X.c)).setCell ⟨(w.heap.size + 1), 10, none⟩ (.slice r.S.A r.S.n r.S.c))) := lh ((Only.set_ (Only.set_ (Only.set_ (Only.set_ (Only.set_ (Only.set_ (Only.set_ (Only.set_ (Only.set_ (Only.set_ (Only.set_ (Only.refl (fun g => g = w.heap.size + 1) w6) ⟨(w.heap.size + 1), 0, none⟩ (.inl rfl) (.slice sS.A sS.n sS.c)) ⟨(w.heap.size + 1), 1, none⟩ (.inl rfl) (.slice sK.A sK.n sK.c)) ⟨(w.heap.size + 1), 2, none⟩ (.inl rfl) (.int .u64 r.e)) ⟨(w.heap.size + 1), 3, none⟩ (.inl rfl) (.int .u64 r.f)) ⟨(w.heap.size + 1), 4, none⟩ (.inl rfl) (.slice r.L.A r.L.n r.L.c)) ⟨(w.heap.size + 1), 5, none⟩ (.inl rfl) (.slice r.P.A r.P.n r.P.c)) ⟨(w.heap.size + 1), 6, none⟩ (.inl rfl) (.int .u64 r.h)) ⟨(w.heap.size + 1), 7, none⟩ (.inl rfl) (.int .u64 r.t)) ⟨(w.heap.size + 1), 8, none⟩ (.inl rfl) (.slice r.K.A r.K.n r.K.c)) ⟨(w.heap.size + 1), 9, none⟩ (.inl rfl) (.slice r.X.A r.X.n r.X.c)) ⟨(w.heap.size + 1), 10, none⟩ (.inl rfl) (.slice r.S.A r.S.n r.S.c)))
 have YE : Hid (Blk (((((((((((w6.setCell ⟨(w.heap.size + 1), 0, none⟩ (.slice sS.A sS.n sS.c)).setCell ⟨(w.heap.size + 1), 1, none⟩ (.slice sK.A sK.n sK.c)).setCell ⟨(w.heap.size + 1), 2, none⟩ (.int .u64 r.e)).setCell ⟨(w.heap.size + 1), 3, none⟩ (.int .u64 r.f)).setCell ⟨(w.heap.size + 1), 4, none⟩ (.slice r.L.A r.L.n r.L.c)).setCell ⟨(w.heap.size + 1), 5, none⟩ (.slice r.P.A r.P.n r.P.c)).setCell ⟨(w.heap.size + 1), 6, none⟩ (.int .u64 r.h)).setCell ⟨(w.heap.size + 1), 7, none⟩ (.int .u64 r.t)).setCell ⟨(w.heap.size + 1), 8, none⟩ (.slice r.K.A r.K.n r.K.c)).setCell ⟨(w.heap.size + 1), 9, none⟩ (.slice r.X.A r.X.n r.X.c)).setCell ⟨(w.heap.size + 1), 10, none⟩ (.slice r.S.A r.S.n r.S.c)) (w.heap.size + 1) 35 #[.slice sS.A sS.n sS.c, .slice sK.A sK.n sK.c, .int .u64 r.e, .int .u64 r.f, .slice r.L.A r.L.n r.L.c, .slice r.P.A r.P.n r.P.c, .int .u64 r.h, .int .u64 r.t, .slice r.K.A r.K.n r.K.c, .slice r.X.A r.X.n r.X.c, .slice r.S.A r.S.n r.S.c]) := lh (by have h_ := (Blk.set_ (Blk.set_ (Blk.set_ (Blk.set_ (Blk.set_ (Blk.set_ (Blk.set_ (Blk.set_ (Blk.set_ (Blk.set_ (Blk.set_ Y6.out 0 (.slice sS.A sS.n sS.c)) 1 (.slice sK.A sK.n sK.c)) 2 (.int .u64 r.e)) 3 (.int .u64 r.f)) 4 (.slice r.L.A r.L.n r.L.c)) 5 (.slice r.P.A r.P.n r.P.c)) 6 (.int .u64 r.h)) 7 (.int .u64 r.t)) 8 (.slice r.K.A r.K.n r.K.c)) 9 (.slice r.X.A r.X.n r.X.c)) 10 (.slice r.S.A r.S.n r.S.c)); simpa only [uA, sZ, uC] using h_)
 clear hy6 hy6f
 generalize (((((((((((w6.setCell ⟨(w.heap.size + 1), 0, none⟩ (.slice sS.A sS.n sS.c)).setCell ⟨(w.heap.size + 1), 1, none⟩ (.slice sK.A sK.n sK.c)).setCell ⟨(w.heap.size + 1), 2, none⟩ (.int .u64 r.e)).setCell ⟨(w.heap.size + 1), 3, none⟩ (.int .u64 r.f)).setCell ⟨(w.heap.size + 1), 4, none⟩ (.slice r.L.A r.L.n r.L.c)).setCell ⟨(w.heap.size + 1), 5, none⟩ (.slice r.P.A r.P.n r.P.c)).setCell ⟨(w.heap.size + 1), 6, none⟩ (.int .u64 r.h)).setCell ⟨(w.heap.size + 1), 7, none⟩ (.int .u64 r.t)).setCell ⟨(w.heap.size + 1), 8, none⟩ (.slice r.K.A r.K.n r.K.c)).setCell ⟨(w.heap.size + 1), 9, none⟩ (.slice r.X.A r.X.n r.X.c)).setCell ⟨(w.heap.size + 1), 10, none⟩ (.slice r.S.A r.S.n r.S.c)) = W8 at OE YE ⊢
 have S8 : Hid (Row W8 base 68 8 sS _ _) := lh (S6.out.only OE.out (fun g hg h => by subst h; exact S6.out.ne Y6.out (by decide) _ hg rfl))
 have K8 : Hid (Row W8 base 50 7 sK _ _) := lh (K6.out.only OE.out (fun g hg h => by subst h; exact K6.out.ne Y6.out (by decide) _ hg rfl))
 have E8 := lh (E6.out.only OE.out (fun ar hl ad had h => E6.out.ne Y6.out (by decide) (by decide) ar hl ad had h))
 have F8 : Hid (Below w.heap.size w W8) := lh ((WR.out.trans (F6.out.mono WR.out.size)).trans (OE.out.below (Nat.le_trans WR.out.size F6.out.size) (fun g hg => by omega)))
 have hy8 := YE.out.cell
 refine bodyPost_ret (v := .tuple #[.agg #[.slice sS.A sS.n sS.c, .slice sK.A sK.n sK.c, .int .u64 r.e, .int .u64 r.f, .slice r.L.A r.L.n r.L.c, .slice r.P.A r.P.n r.P.c, .int .u64 r.h, .int .u64 r.t, .slice r.K.A r.K.n r.K.c, .slice r.X.A r.X.n r.X.c, .slice r.S.A r.S.n r.S.c], .int .i64 0]) ?_ rfl ?_
 · simp [results, Tryz.results6, go_sem, hy8]
 · exact ⟨r, sS, sK, base, rfl, S8.out, K8.out, E8.out, F8.out⟩
set_option maxHeartbeats 4000000 in
theorem erun_no (w : World) (k K T M : Int) (sA : Option Addr) (sn sc : Nat) (p : Sl) (ls : List (List (Int × Int))) (h : RdLO w w.heap.size ⟨sA, sn, sc⟩ ls) (hps : p.n <= maxLen)
   (hno : ls.any fgnL = true \/ ¬ ((Cfg.mk k K T M).may /\ (sn : Int) = T /\ (ls.map List.length).any (fun x => decide (1000 < x)) = false /\ p.n <= 20000)) :
   Calls Tryz.prog 6 #[.agg #[.int .i64 k, .int .i64 K, .int .i64 T, .int .i64 M], .slice sA sn sc, .slice p.A p.n p.c] w fun e w' => e = .returned (.tuple #[.agg #[.slice none 0 0, .slice none 0 0, .int .u64 0, .int .u64 0, .slice none 0 0, .slice none 0 0, .int .u64 0, .int .u64 0, .slice none 0 0, .slice none 0 0, .slice none 0 0], .int .i64 1]) /\ Below w.heap.size w w' := by
 have hmf : ∀ (fn : Fn) (first cap : Array Value) (w : World), (Instr.makeFunc fn first cap).run Tryz.prog w = .ok (.func fn first cap) w := fun _ _ _ _ => rfl
 have W0 : Hid (Below w.heap.size w ((w.alloc (.cells #[.int .i64 k, .int .i64 K, .int .i64 T, .int .i64 M] 23)).alloc (.cells zT 35))) := lh (((Below.refl _ _).alloc (Nat.le_refl _) _).alloc (by simp) _)
 have X0 : Hid (Blk ((w.alloc (.cells #[.int .i64 k, .int .i64 K, .int .i64 T, .int .i64 M] 23)).alloc (.cells zT 35)) w.heap.size 23 #[.int .i64 k, .int .i64 K, .int .i64 T, .int .i64 M]) := lh ((Blk.new _ _ _).alloc _)
 have Y0 : Hid (Blk ((w.alloc (.cells #[.int .i64 k, .int .i64 K, .int .i64 T, .int .i64 M] 23)).alloc (.cells zT 35)) (w.heap.size + 1) 35 #[.slice none 0 0, .slice none 0 0, .int .u64 0, .int .u64 0, .slice none 0 0, .slice none 0 0, .int .u64 0, .int .u64 0, .slice none 0 0, .slice none 0 0, .slice none 0 0]) := lh (blk_at2 _ _ _ _ (by simp))
 have HL := lh h
 have HLN : Hid (Drivec.Lens w ⟨sA, sn, sc⟩ (ls.map List.length)) := lh (RdLO.lens h (Nat.le_refl _))
 have HNO := lh hno
 have hls : sn = ls.length := h.1
 have hsc := h.2.1
 have hscm := h.2.2.1
 simp only at hsc hscm
 have hsn2 : (sn : Int) <= 9223372036854775807 := by unfold maxLen at hscm; omega
 have HPS := lh hps
 have HLS := lh hls
 clear h hno hsc hscm hps hls
 go_enter Tryz.func6, Tryz.ntmps6
 go_wp2_with fail
 generalize ((w.alloc (.cells #[.int .i64 k, .int .i64 K, .int .i64 T, .int .i64 M] 23)).alloc (.cells zT 35)) = V at W0 X0 Y0 ⊢
 rcases hany : ls.any fgnL with _ | _
 · have HN2 := lh (HNO.out.resolve_left (by rw [hany]; decide))
   go_wp2_with (first
     | (go_at_call 11; (with_reducible refine (contains_LE ⟨sA, sn, sc⟩ _ w.heap.size ls (HL.out.below W0.out) W0.out.size).mono ?_); rw [hany]; rintro e wr ⟨rfl, hb⟩; go_must (have HW := lh hb; have WR := lh (W0.out.trans (hb.mono W0.out.size)); have X4 := lh (X0.out.below hb X0.out.lt)); have hx4 := X4.out.cell; clear hb)
     | (go_at_call 13; go_must (refine (drun_no _ k K T M 14 _ ⟨sA, sn, sc⟩ p (ls.map List.length) (HLN.out.below WR.out) HPS.out HN2.out).mono ?_); rintro e w1 ⟨rfl, hb⟩; go_must (have Y1 := lh ((Y0.out.below HW.out Y0.out.lt).below hb (Y0.out.below HW.out Y0.out.lt).lt); have W1 := lh (WR.out.trans (hb.mono WR.out.size))); have hy1 := Y1.out.cell; have hy1f := Y1.out.frozen; clear hb))
   have OE : Hid (Only (fun g => g = w.heap.size + 1) w1 (((((((((((w1.setCell ⟨w.heap.size + 1, 0, none⟩ (.slice none 0 0)).setCell ⟨w.heap.size + 1, 1, none⟩ (.slice none 0 0)).setCell ⟨w.heap.size + 1, 2, none⟩ (.int .u64 0)).setCell ⟨w.heap.size + 1, 3, none⟩ (.int .u64 0)).setCell ⟨w.heap.size + 1, 4, none⟩ (.slice none 0 0)).setCell ⟨w.heap.size + 1, 5, none⟩ (.slice none 0 0)).setCell ⟨w.heap.size + 1, 6, none⟩ (.int .u64 0)).setCell ⟨w.heap.size + 1, 7, none⟩ (.int .u64 0)).setCell ⟨w.heap.size + 1, 8, none⟩ (.slice none 0 0)).setCell ⟨w.heap.size + 1, 9, none⟩ (.slice none 0 0)).setCell ⟨w.heap.size + 1, 10, none⟩ (.slice none 0 0))) := lh ((Only.set_ (Only.set_ (Only.set_ (Only.set_ (Only.set_ (Only.set_ (Only.set_ (Only.set_ (Only.set_ (Only.set_ (Only.set_ (Only.refl (fun g => g = w.heap.size + 1) w1) ⟨w.heap.size + 1, 0, none⟩ (.inl rfl) (.slice none 0 0)) ⟨w.heap.size + 1, 1, none⟩ (.inl rfl) (.slice none 0 0)) ⟨w.heap.size + 1, 2, none⟩ (.inl rfl) (.int .u64 0)) ⟨w.heap.size + 1, 3, none⟩ (.inl rfl) (.int .u64 0)) ⟨w.heap.size + 1, 4, none⟩ (.inl rfl) (.slice none 0 0)) ⟨w.heap.size + 1, 5, none⟩ (.inl rfl) (.slice none 0 0)) ⟨w.heap.size + 1, 6, none⟩ (.inl rfl) (.int .u64 0)) ⟨w.heap.size + 1, 7, none⟩ (.inl rfl) (.int .u64 0)) ⟨w.heap.size + 1, 8, none⟩ (.inl rfl) (.slice none 0 0)) ⟨w.heap.size + 1, 9, none⟩ (.inl rfl) (.slice none 0 0)) ⟨w.heap.size + 1, 10, none⟩ (.inl rfl) (.slice none 0 0)))
   have YE : Hid (Blk (((((((((((w1.setCell ⟨w.heap.size + 1, 0, none⟩ (.slice none 0 0)).setCell ⟨w.heap.size + 1, 1, none⟩ (.slice none 0 0)).setCell ⟨w.heap.size + 1, 2, none⟩ (.int .u64 0)).setCell ⟨w.heap.size + 1, 3, none⟩ (.int .u64 0)).setCell ⟨w.heap.size + 1, 4, none⟩ (.slice none 0 0)).setCell ⟨w.heap.size + 1, 5, none⟩ (.slice none 0 0)).setCell ⟨w.heap.size + 1, 6, none⟩ (.int .u64 0)).setCell ⟨w.heap.size + 1, 7, none⟩ (.int .u64 0)).setCell ⟨w.heap.size + 1, 8, none⟩ (.slice none 0 0)).setCell ⟨w.heap.size + 1, 9, none⟩ (.slice none 0 0)).setCell ⟨w.heap.size + 1, 10, none⟩ (.slice none 0 0)) (w.heap.size + 1) 35 #[.slice none 0 0, .slice none 0 0, .int .u64 0, .int .u64 0, .slice none 0 0, .slice none 0 0, .int .u64 0, .int .u64 0, .slice none 0 0, .slice none 0 0, .slice none 0 0]) := lh (by have h_ := (Blk.set_ (Blk.set_ (Blk.set_ (Blk.set_ (Blk.set_ (Blk.set_ (Blk.set_ (Blk.set_ (Blk.set_ (Blk.set_ (Blk.set_ Y1.out 0 (.slice none 0 0)) 1 (.slice none 0 0)) 2 (.int .u64 0)) 3 (.int .u64 0)) 4 (.slice none 0 0)) 5 (.slice none 0 0)) 6 (.int .u64 0)) 7 (.int .u64 0)) 8 (.slice none 0 0)) 9 (.slice none 0 0)) 10 (.slice none 0 0)); simpa only [uA, sZ, uC] using h_)
   clear hy1 hy1f
   generalize (((((((((((w1.setCell ⟨w.heap.size + 1, 0, none⟩ (.slice none 0 0)).setCell ⟨w.heap.size + 1, 1, none⟩ (.slice none 0 0)).setCell ⟨w.heap.size + 1, 2, none⟩ (.int .u64 0)).setCell ⟨w.heap.size + 1, 3, none⟩ (.int .u64 0)).setCell ⟨w.heap.size + 1, 4, none⟩ (.slice none 0 0)).setCell ⟨w.heap.size + 1, 5, none⟩ (.slice none 0 0)).setCell ⟨w.heap.size + 1, 6, none⟩ (.int .u64 0)).setCell ⟨w.heap.size + 1, 7, none⟩ (.int .u64 0)).setCell ⟨w.heap.size + 1, 8, none⟩ (.slice none 0 0)).setCell ⟨w.heap.size + 1, 9, none⟩ (.slice none 0 0)).setCell ⟨w.heap.size + 1, 10, none⟩ (.slice none 0 0)) = W8 at OE YE ⊢
   have hy8 := YE.out.cell
   refine bodyPost_ret (v := .tuple #[.agg #[.slice none 0 0, .slice none 0 0, .int .u64 0, .int .u64 0, .slice none 0 0, .slice none 0 0, .int .u64 0, .int .u64 0, .slice none 0 0, .slice none 0 0, .slice none 0 0], .int .i64 1]) ?_ rfl ?_
   · simp [results, Tryz.results6, go_sem, hy8]
   · exact ⟨rfl, W1.out.trans (OE.out.below W1.out.size (fun g hg => by omega))⟩
 · go_wp2_with (go_at_call 11; (with_reducible refine (contains_LE ⟨sA, sn, sc⟩ _ w.heap.size ls (HL.out.below W0.out) W0.out.size).mono ?_); rw [hany]; rintro e w1 ⟨rfl, hb⟩; go_must (have Y1 := lh (Y0.out.below hb Y0.out.lt); have W1 := lh (W0.out.trans (hb.mono W0.out.size))); have hy1 := Y1.out.cell; have hy1f := Y1.out.frozen; clear hb)
   have OE : Hid (Only (fun g => g = w.heap.size + 1) w1 (((((((((((w1.setCell ⟨w.heap.size + 1, 0, none⟩ (.slice none 0 0)).setCell ⟨w.heap.size + 1, 1, none⟩ (.slice none 0 0)).setCell ⟨w.heap.size + 1, 2, none⟩ (.int .u64 0)).setCell ⟨w.heap.size + 1, 3, none⟩ (.int .u64 0)).setCell ⟨w.heap.size + 1, 4, none⟩ (.slice none 0 0)).setCell ⟨w.heap.size + 1, 5, none⟩ (.slice none 0 0)).setCell ⟨w.heap.size + 1, 6, none⟩ (.int .u64 0)).setCell ⟨w.heap.size + 1, 7, none⟩ (.int .u64 0)).setCell ⟨w.heap.size + 1, 8, none⟩ (.slice none 0 0)).setCell ⟨w.heap.size + 1, 9, none⟩ (.slice none 0 0)).setCell ⟨w.heap.size + 1, 10, none⟩ (.slice none 0 0))) := lh ((Only.set_ (Only.set_ (Only.set_ (Only.set_ (Only.set_ (Only.set_ (Only.set_ (Only.set_ (Only.set_ (Only.set_ (Only.set_ (Only.refl (fun g => g = w.heap.size + 1) w1) ⟨w.heap.size + 1, 0, none⟩ (.inl rfl) (.slice none 0 0)) ⟨w.heap.size + 1, 1, none⟩ (.inl rfl) (.slice none 0 0)) ⟨w.heap.size + 1, 2, none⟩ (.inl rfl) (.int .u64 0)) ⟨w.heap.size + 1, 3, none⟩ (.inl rfl) (.int .u64 0)) ⟨w.heap.size + 1, 4, none⟩ (.inl rfl) (.slice none 0 0)) ⟨w.heap.size + 1, 5, none⟩ (.inl rfl) (.slice none 0 0)) ⟨w.heap.size + 1, 6, none⟩ (.inl rfl) (.int .u64 0)) ⟨w.heap.size + 1, 7, none⟩ (.inl rfl) (.int .u64 0)) ⟨w.heap.size + 1, 8, none⟩ (.inl rfl) (.slice none 0 0)) ⟨w.heap.size + 1, 9, none⟩ (.inl rfl) (.slice none 0 0)) ⟨w.heap.size + 1, 10, none⟩ (.inl rfl) (.slice none 0 0)))
   have YE : Hid (Blk (((((((((((w1.setCell ⟨w.heap.size + 1, 0, none⟩ (.slice none 0 0)).setCell ⟨w.heap.size + 1, 1, none⟩ (.slice none 0 0)).setCell ⟨w.heap.size + 1, 2, none⟩ (.int .u64 0)).setCell ⟨w.heap.size + 1, 3, none⟩ (.int .u64 0)).setCell ⟨w.heap.size + 1, 4, none⟩ (.slice none 0 0)).setCell ⟨w.heap.size + 1, 5, none⟩ (.slice none 0 0)).setCell ⟨w.heap.size + 1, 6, none⟩ (.int .u64 0)).setCell ⟨w.heap.size + 1, 7, none⟩ (.int .u64 0)).setCell ⟨w.heap.size + 1, 8, none⟩ (.slice none 0 0)).setCell ⟨w.heap.size + 1, 9, none⟩ (.slice none 0 0)).setCell ⟨w.heap.size + 1, 10, none⟩ (.slice none 0 0)) (w.heap.size + 1) 35 #[.slice none 0 0, .slice none 0 0, .int .u64 0, .int .u64 0, .slice none 0 0, .slice none 0 0, .int .u64 0, .int .u64 0, .slice none 0 0, .slice none 0 0, .slice none 0 0]) := lh (by have h_ := (Blk.set_ (Blk.set_ (Blk.set_ (Blk.set_ (Blk.set_ (Blk.set_ (Blk.set_ (Blk.set_ (Blk.set_ (Blk.set_ (Blk.set_ Y1.out 0 (.slice none 0 0)) 1 (.slice none 0 0)) 2 (.int .u64 0)) 3 (.int .u64 0)) 4 (.slice none 0 0)) 5 (.slice none 0 0)) 6 (.int .u64 0)) 7 (.int .u64 0)) 8 (.slice none 0 0)) 9 (.slice none 0 0)) 10 (.slice none 0 0)); simpa only [uA, sZ, uC] using h_)
   clear hy1 hy1f
   generalize (((((((((((w1.setCell ⟨w.heap.size + 1, 0, none⟩ (.slice none 0 0)).setCell ⟨w.heap.size + 1, 1, none⟩ (.slice none 0 0)).setCell ⟨w.heap.size + 1, 2, none⟩ (.int .u64 0)).setCell ⟨w.heap.size + 1, 3, none⟩ (.int .u64 0)).setCell ⟨w.heap.size + 1, 4, none⟩ (.slice none 0 0)).setCell ⟨w.heap.size + 1, 5, none⟩ (.slice none 0 0)).setCell ⟨w.heap.size + 1, 6, none⟩ (.int .u64 0)).setCell ⟨w.heap.size + 1, 7, none⟩ (.int .u64 0)).setCell ⟨w.heap.size + 1, 8, none⟩ (.slice none 0 0)).setCell ⟨w.heap.size + 1, 9, none⟩ (.slice none 0 0)).setCell ⟨w.heap.size + 1, 10, none⟩ (.slice none 0 0)) = W8 at OE YE ⊢
   have hy8 := YE.out.cell
   refine bodyPost_ret (v := .tuple #[.agg #[.slice none 0 0, .slice none 0 0, .int .u64 0, .int .u64 0, .slice none 0 0, .slice none 0 0, .int .u64 0, .int .u64 0, .slice none 0 0, .slice none 0 0, .slice none 0 0], .int .i64 1]) ?_ rfl ?_
   · simp [results, Tryz.results6, go_sem, hy8]
   · exact ⟨rfl, W1.out.trans (OE.out.below W1.out.size (fun g hg => by omega))⟩
end Go.Proofs.YtffppdcpiieapaaGreat.Arenac
