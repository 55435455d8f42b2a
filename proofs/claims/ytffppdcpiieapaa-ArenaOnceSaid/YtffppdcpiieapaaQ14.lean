/- A run of any calls, by contract. · arena.Run by contract: foreign calls are refused, the others are run. -/
import Derived.Test.YtffppdcpiieapaaQ8
import Derived.Test.YtffppdcpiieapaaQ12
namespace Go.Proofs.Ytffppdcpiieapaa.Drivec
open Go.RowKit Go.Proofs.Ytffppdcpiieapaa.Memc Go.Proofs.Ytffppdcpiieapaa.Procc Go.Proofs.Ytffppdcpiieapaa.Storec Go.Proofs.Ytffppdcpiieapaa.Newc Go.Proofs.Ytffppdcpiieapaa.Machc
set_option linter.unusedVariables false
set_option maxRecDepth 100000

/-- the slice s reads as the lists of calls ls, in memory below B -/
def RdLO (w : World) (B : Nat) (s : Sl) (ls : List (List (Int × Int))) : Prop :=
  s.n = ls.length ∧ s.n ≤ s.c ∧ s.c ≤ maxLen ∧ (0 < s.n → ∃ b off, s.A = some ⟨b, off, none⟩ ∧ b < B ∧ ∀ (i : Nat) (l : List (Int × Int)), ls[i]? = some l → ∃ so : Sl, w.cell? ⟨b, off + i, none⟩ = some (.slice so.A so.n so.c) ∧ RdO w B so l)
theorem RdLO.below {w w' : World} {B : Nat} {s : Sl} {l : List (List (Int × Int))} (h : RdLO w B s l) (hb : Below B w w') : RdLO w' B s l :=
  ⟨h.1, h.2.1, h.2.2.1, fun hn => by
    obtain ⟨b, off, e, hlt, hc⟩ := h.2.2.2 hn
    refine ⟨b, off, e, hlt, fun i x hx => ?_⟩
    obtain ⟨so, h1, h2⟩ := hc i x hx
    exact ⟨so, (hb.cell (p := ⟨b, _, none⟩) hlt).trans h1, h2.below hb⟩⟩
theorem FrG.new {B : Nat} {w w' w'' : World} (h : FrG B w w') (k : Only (fun g => (B ≤ g ∧ ∀ t cs, Blk w' g t cs → t = 102 ∨ t = 104 ∨ t = 59 ∨ t = 55 ∨ t = 126 ∨ t = 194) ∨ w.heap.size ≤ g) w' w'') : FrG B w w'' :=
  ⟨k.os.trans h.os, k.tape.trans h.tape, k.output.trans h.output, Nat.le_trans h.size k.size, fun i hi hn => by
    have e := h.block i hi hn
    refine (k.block i (Nat.lt_of_lt_of_le hi h.size) (fun hk => ?_)).trans e
    rcases hk with hk | hk
    · exact hn ⟨hk.1, fun t cs hb => hk.2 t cs (hb.moved e)⟩
    · omega⟩
/-- what a run holds stays where blocks of two other types, made by it, are touched -/
theorem InvG.away {w : World} {B base gC gT T Bf : Nat} {bs : Array Value} {lb : List Cap1} {Z : Mac} {ls : List (List (Int × Int))} {s : RS} {w' : World} {Pd : Nat → Prop} (h : InvG w B base gC gT T Bf bs lb Z ls s) (ho : Only Pd w w') (hp : ∀ k, Pd k → B ≤ k ∧ ∃ t cs, Blk w k t cs ∧ (t = 35 ∨ t = 36)) : InvG w' B base gC gT T Bf bs lb Z ls s := by
  obtain ⟨⟨r, sS, sK, ct, Ps, qs, hC, hT, hE, hS, hK, ht, hsep⟩, hkeep, hlen, hfew, hlow, hcap⟩ := h
  have hn : ∀ (k : Nat) (t : TypeId) (cs : Array Value), Blk w k t cs → t ≠ 35 → t ≠ 36 → ¬ Pd k := fun k t cs hk n1 n2 hpk => by
    obtain ⟨_, t', cs', hb, ht'⟩ := hp k hpk
    rcases ht' with ht' | ht'
    · subst ht'; exact Blk.ne hk hb n1 rfl
    · subst ht'; exact Blk.ne hk hb n2 rfl
  have hrow : ∀ {E : TypeId} {size n : Nat} {q : Sl} {xs : List Value}, Row w base E size q n xs → E ≠ 35 → E ≠ 36 → ∀ g, bl q g → ¬ Pd g := fun hr n1 n2 g hg => by
    obtain ⟨ds, hd⟩ := hr.blk hg
    exact hn _ _ _ hd n1 n2
  have hbl := ho.below (B := B) (Nat.le_trans hlow.1 hlow.2.1) (fun k hk => (hp k hk).1)
  refine ⟨⟨r, sS, sK, ct, Ps, qs, hC.only ho (hn _ _ _ hC (by decide) (by decide)), hT.only ho (hn _ _ _ hT (by decide) (by decide)), hE.only ho (fun ar hl ad had hpk => ?_), hS.only ho (hrow hS (by decide) (by decide)), hK.only ho (hrow hK (by decide) (by decide)), fun i hi => ?_, hsep⟩, ⟨hkeep.1, fun x hx => (hkeep.2.1 x hx).only ho (hn _ _ _ (hkeep.2.1 x hx) (hkeep.2.2 x hx).2.2.2.2.2.2.1 (hkeep.2.2 x hx).2.2.2.2.2.2.2), hkeep.2.2⟩, hlen, hfew, ⟨hlow.1, Nat.le_trans hlow.2.1 ho.size, hlow.2.2⟩, hcap⟩
  · obtain ⟨_, t', cs', hb, ht'⟩ := hp _ hpk
    rcases ht' with ht' | ht' <;> (subst ht'; exact hE.ne hb (by decide) (by decide) ar hl ad had rfl)
  · obtain ⟨n, so, l, e1, e2, e3, e4, e5⟩ := ht i hi
    refine ⟨n, so, l, e1, e2, e3, e4.below hbl, ?_⟩
    rcases e5 with e5 | ⟨k, f, g1, g2, g3, g4, g5, g6⟩
    · exact .inl e5
    · refine .inr ⟨k, f, g1, g2, g3, g4, g5, ?_⟩
      obtain ⟨F, cs, lc, f0, fs, c1, c2, c3, c4, c5, c6, c7, c8, c9, c10⟩ := g6
      exact ⟨F, cs, lc, f0, fs, c1, c2, c3, fun x hx => (c4 x hx).only ho (hn _ _ _ (c4 x hx) (c3 x hx).2.2.2.2.2.2.1 (c3 x hx).2.2.2.2.2.2.2), c5.only ho (hn _ _ _ c5 (by decide) (by decide)), c6.only ho (hrow c6 (by decide) (by decide)), c7, c8, c9, c10⟩
/-- what a run comes to -/
def RanG (w : World) (B : Nat) (s : RS) (e : Ending) (w' : World) : Prop :=
  ∃ (r : R) (sS sK : Sl) (base : Nat), e = .returned (.tuple #[.agg #[.slice sS.A sS.n sS.c, .slice sK.A sK.n sK.c, .int .u64 r.e, .int .u64 r.f, .slice r.L.A r.L.n r.L.c, .slice r.P.A r.P.n r.P.c, .int .u64 r.h, .int .u64 r.t, .slice r.K.A r.K.n r.K.c, .slice r.X.A r.X.n r.X.c, .slice r.S.A r.S.n r.S.c], .int .i64 0]) ∧ Row w' base 59 8 sS s.steps.length (flatT s.steps) ∧ Row w' base 55 7 sK s.calls.length (flatK s.calls) ∧ Endw w' base r s.m ∧ FrG B w w'

set_option maxHeartbeats 8000000 in
theorem rung_c (w : World) (B Bf : Nat) (bs : Array Value) (lb : List Cap1) (Z : Mac) (ok : Int → Int → Int → Int → Prop) (G : FS → Prop) (k : Int) (K T M : Nat) (bo oo oc : Nat) (pA : Option Addr) (pn pc : Nat) (ls : List (List (Int × Int))) (ps : List (Int × Int))
    (k1 : 1 ≤ k) (k2 : k ≤ 3) (a1 : 1 ≤ K) (a2 : K ≤ 64) (t1 : 1 ≤ T) (t2 : T ≤ 8) (m1 : 2 ≤ M) (m2 : M ≤ 64)
    (hl : RdLO w B ⟨some ⟨bo, oo, none⟩, T, oc⟩ ls) (hle : ∀ x ∈ ls, x.length ≤ 1000) (hp : RdP w B ⟨pA, pn, pc⟩ ps) (hpn : ps.length ≤ 20000) (hB : B ≤ w.heap.size)
    (hbs : bs = (lb.map Cap1.ptr).toArray) (hkb : Kept w lb) (hsb : SafeL lb) (hZ : MacOk Z ok G) (hBg : Begins Bf lb ok (fun i kd vl d => Z.plan (Z.bg i kd vl d))) (hok : ∀ p ∈ ps, OkOps ok ls p.2) :
    Calls Try.prog 26 #[.agg #[.int .i64 k, .int .i64 K, .int .i64 T, .int .i64 M], .slice (some ⟨bo, oo, none⟩) T oc, .slice pA pn pc, .func (.func Bf) #[] bs] w (RanG w B (runM Z ls (RS.first (newM k K T M) T) ps)) := by
  have hls : ls.length = T := hl.1.symm
  have hso : T ≤ oc ∧ oc ≤ maxLen := ⟨hl.2.1, hl.2.2.1⟩
  obtain ⟨b', off', hA', hbB', hcell'⟩ := hl.2.2.2 (by show 0 < T; omega)
  injection hA' with hA'
  injection hA' with hA1 hA2
  subst hA1
  subst hA2
  have hbo : bo < w.heap.size := Nat.lt_of_lt_of_le hbB' hB
  have hops : ∀ i, i < T → ∃ q : Sl, w.cell? ⟨bo, oo + i, none⟩ = some (.slice q.A q.n q.c) ∧ RdO w B q (ls.getD i []) := fun i hi => by
    obtain ⟨l, hl2⟩ : ∃ l, ls[i]? = some l := ⟨_, List.getElem?_eq_getElem (by omega)⟩
    obtain ⟨so, h1, h2⟩ := hcell' i l hl2
    exact ⟨so, h1, by rw [getD_of hl2]; exact h2⟩
  have HCAPT := Lib.hid (And.intro hbs (And.intro hkb (And.intro hsb (And.intro hZ (And.intro hBg hok)))))
  clear hl hbB' hcell' hbs hkb hsb hZ hBg hok
  have hmf : ∀ (fn : Fn) (first cap : Array Value) (w : World), (Instr.makeFunc fn first cap).run Try.prog w = .ok (.func fn first cap) w := fun _ _ _ _ => rfl
  have hlens : Lens w ⟨some ⟨bo, oo, none⟩, T, oc⟩ (ls.map List.length) := ⟨by rw [List.length_map]; exact hls.symm, hso.1, hso.2, (fun x hx => by obtain ⟨y, hy, rfl⟩ := List.mem_map.1 hx; have := hle y hy; unfold maxLen; omega), fun _ => ⟨bo, oo, rfl, hbo, fun i n hi => by
    rw [List.getElem?_map] at hi
    rcases hx : ls[i]? with _ | y
    · rw [hx] at hi; cases hi
    · rw [hx] at hi
      injection hi with hi
      obtain ⟨q, hq, ho⟩ := hops i (by have := (List.getElem?_eq_some_iff.1 hx).1; omega)
      rw [getD_of hx] at ho
      exact ⟨q, ho.1.trans hi, hq⟩⟩⟩
  have hany : (ls.map List.length).any (fun x => decide (1000 < x)) = false := by
    rw [List.any_eq_false]
    intro x hx
    obtain ⟨y, hy, rfl⟩ := List.mem_map.1 hx
    have := hle y hy
    simp; omega
  have W0 : Hid (Below w.heap.size w (((w.alloc (.cells #[.int .i64 k, .int .i64 K, .int .i64 T, .int .i64 M] 23)).alloc (.cells #[.slice none 0 0, .slice none 0 0, .int .u64 0, .int .u64 0, .slice none 0 0, .slice none 0 0, .int .u64 0, .int .u64 0, .slice none 0 0, .slice none 0 0, .slice none 0 0] 35)).alloc (.cells #[.int .i64 0] 36))) := Lib.hid ((((Below.refl _ _).alloc (Nat.le_refl _) _).alloc (by simp) _).alloc (by simp; omega) _)
  have X0 : Hid (Blk (((w.alloc (.cells #[.int .i64 k, .int .i64 K, .int .i64 T, .int .i64 M] 23)).alloc (.cells #[.slice none 0 0, .slice none 0 0, .int .u64 0, .int .u64 0, .slice none 0 0, .slice none 0 0, .int .u64 0, .int .u64 0, .slice none 0 0, .slice none 0 0, .slice none 0 0] 35)).alloc (.cells #[.int .i64 0] 36)) w.heap.size 23 #[.int .i64 k, .int .i64 K, .int .i64 T, .int .i64 M]) := Lib.hid (((Blk.new _ _ _).alloc _).alloc _)
  have Y0 : Hid (Blk (((w.alloc (.cells #[.int .i64 k, .int .i64 K, .int .i64 T, .int .i64 M] 23)).alloc (.cells #[.slice none 0 0, .slice none 0 0, .int .u64 0, .int .u64 0, .slice none 0 0, .slice none 0 0, .int .u64 0, .int .u64 0, .slice none 0 0, .slice none 0 0, .slice none 0 0] 35)).alloc (.cells #[.int .i64 0] 36)) (w.heap.size + 1) 35 #[.slice none 0 0, .slice none 0 0, .int .u64 0, .int .u64 0, .slice none 0 0, .slice none 0 0, .int .u64 0, .int .u64 0, .slice none 0 0, .slice none 0 0, .slice none 0 0]) := Lib.hid ((blk_at (by simp)).alloc _)
  have Z0 : Hid (Blk (((w.alloc (.cells #[.int .i64 k, .int .i64 K, .int .i64 T, .int .i64 M] 23)).alloc (.cells #[.slice none 0 0, .slice none 0 0, .int .u64 0, .int .u64 0, .slice none 0 0, .slice none 0 0, .int .u64 0, .int .u64 0, .slice none 0 0, .slice none 0 0, .slice none 0 0] 35)).alloc (.cells #[.int .i64 0] 36)) (w.heap.size + 1 + 1) 36 #[.int .i64 0]) := Lib.hid (blk_at (by simp))
  have HLN := Lib.hid hlens
  have HAN := Lib.hid hany
  have HSO := Lib.hid (And.intro hso (And.intro trivial (And.intro hbo hops)))
  have HLS := Lib.hid (And.intro hls hle)
  have HP := Lib.hid hp
  have HPN := Lib.hid hpn
  have hmk := fun W => run_mkT T t2 W
  clear hlens hany hso hbo hops hls hle hp hpn
  go_enter_defers Try.func26, Try.ntmps26
  go_wp2_with (go_at_call 53; go_must (refine (mayrun_yes_Op _ k K T M ⟨some ⟨bo, oo, none⟩, T, oc⟩ ⟨pA, pn, pc⟩ (ls.map List.length) ⟨⟨k1, k2⟩, ⟨by simp only; omega, by simp only; omega⟩, ⟨by simp only; omega, by simp only; omega⟩, ⟨by simp only; omega, by simp only; omega⟩⟩ (HLN.out.below W0.out) rfl HAN.out (by have h1 := HP.out.1; have h2 := HPN.out; simp only at h1; show pn ≤ 20000; omega)).mono ?_); rintro e w1 ⟨rfl, hb1⟩; go_must (have X1 := Lib.hid (X0.out.below hb1 X0.out.lt); have Y1 := Lib.hid (Y0.out.below hb1 Y0.out.lt); have Z1 := Lib.hid (Z0.out.below hb1 Z0.out.lt); have W1 := Lib.hid (W0.out.trans (hb1.mono W0.out.size))); clear hb1)
  have hgT : Hid (w.heap.size + 3 ≤ w1.heap.size) := Lib.hid (by have := Z1.out.lt; omega)
  have TB : Hid (Blk ((w1.alloc (.cells (thz T) 104)).alloc (.cells #[.func (.func Bf) #[] bs, .slice (some ⟨w1.heap.size, 0, none⟩) T T, .slice none 0 0, .slice none 0 0, .int .u64 0, .int .u64 0, .slice none 0 0, .slice none 0 0, .int .u64 0, .int .u64 0, .slice none 0 0, .slice none 0 0, .slice none 0 0] 102)) w1.heap.size 104 (thz T)) := Lib.hid ((Blk.new _ _ _).alloc _)
  have CB : Hid (Blk ((w1.alloc (.cells (thz T) 104)).alloc (.cells #[.func (.func Bf) #[] bs, .slice (some ⟨w1.heap.size, 0, none⟩) T T, .slice none 0 0, .slice none 0 0, .int .u64 0, .int .u64 0, .slice none 0 0, .slice none 0 0, .int .u64 0, .int .u64 0, .slice none 0 0, .slice none 0 0, .slice none 0 0] 102)) (w1.heap.size + 1) 102 #[.func (.func Bf) #[] bs, .slice (some ⟨w1.heap.size, 0, none⟩) T T, .slice none 0 0, .slice none 0 0, .int .u64 0, .int .u64 0, .slice none 0 0, .slice none 0 0, .int .u64 0, .int .u64 0, .slice none 0 0, .slice none 0 0, .slice none 0 0]) := Lib.hid (blk_at (by simp))
  have YB := Lib.hid ((Y1.out.alloc (.cells (thz T) 104)).alloc (.cells #[.func (.func Bf) #[] bs, .slice (some ⟨w1.heap.size, 0, none⟩) T T, .slice none 0 0, .slice none 0 0, .int .u64 0, .int .u64 0, .slice none 0 0, .slice none 0 0, .int .u64 0, .int .u64 0, .slice none 0 0, .slice none 0 0, .slice none 0 0] 102))
  have ZB := Lib.hid ((Z1.out.alloc (.cells (thz T) 104)).alloc (.cells #[.func (.func Bf) #[] bs, .slice (some ⟨w1.heap.size, 0, none⟩) T T, .slice none 0 0, .slice none 0 0, .int .u64 0, .int .u64 0, .slice none 0 0, .slice none 0 0, .int .u64 0, .int .u64 0, .slice none 0 0, .slice none 0 0, .slice none 0 0] 102))
  have XB := Lib.hid ((X1.out.alloc (.cells (thz T) 104)).alloc (.cells #[.func (.func Bf) #[] bs, .slice (some ⟨w1.heap.size, 0, none⟩) T T, .slice none 0 0, .slice none 0 0, .int .u64 0, .int .u64 0, .slice none 0 0, .slice none 0 0, .int .u64 0, .int .u64 0, .slice none 0 0, .slice none 0 0, .slice none 0 0] 102))
  have WB := Lib.hid ((W1.out.alloc W1.out.size (.cells (thz T) 104)).alloc (Nat.le_trans W1.out.size (by simp)) (.cells #[.func (.func Bf) #[] bs, .slice (some ⟨w1.heap.size, 0, none⟩) T T, .slice none 0 0, .slice none 0 0, .int .u64 0, .int .u64 0, .slice none 0 0, .slice none 0 0, .int .u64 0, .int .u64 0, .slice none 0 0, .slice none 0 0, .slice none 0 0] 102))
  obtain ⟨gT, hgT'⟩ : ∃ g, w1.heap.size = g := ⟨_, rfl⟩
  generalize hV : ((w1.alloc (.cells (thz T) 104)).alloc (.cells #[.func (.func Bf) #[] bs, .slice (some ⟨w1.heap.size, 0, none⟩) T T, .slice none 0 0, .slice none 0 0, .int .u64 0, .int .u64 0, .slice none 0 0, .slice none 0 0, .int .u64 0, .int .u64 0, .slice none 0 0, .slice none 0 0, .slice none 0 0] 102)) = V at TB CB YB ZB XB WB ⊢
  clear hV
  rw [hgT'] at TB CB hgT
  simp only [hgT']
  clear hgT' X0 Y0 Z0 W0 X1 Y1 Z1 W1
  have hgT2 := hgT.out
  go_loopw [27] (fun i wr => ∃ (j : Nat) (ct : Array Value), i = .int .i64 j ∧ j ≤ T ∧ Blk wr gT 104 ct ∧ ct.size = T * 9 ∧ (∀ m, m < j → ∃ q : Sl, Idle ct (m * 9) q ∧ RdO w B q (ls.getD m [])) ∧ (∀ m, j ≤ m → m < T → Idle ct (m * 9) ⟨none, 0, 0⟩) ∧ Only (fun g => g = gT) V wr) (fun i _ => T - (intOf i).toNat)
  case atStart => exact ⟨0, thz T, rfl, Nat.zero_le _, TB.out, by simp [thz, madeCells], fun m hm => absurd hm (Nat.not_lt_zero _), fun m _ hm => ⟨thz_at T m 0 hm (by omega), thz_at T m 1 hm (by omega), ⟨0, thz_at T m 2 hm (by omega)⟩, thz_at T m 3 hm (by omega), thz_at T m 4 hm (by omega), thz_at T m 5 hm (by omega), thz_at T m 6 hm (by omega), thz_at T m 7 hm (by omega), thz_at T m 8 hm (by omega)⟩, Only.refl _ _⟩
  case round =>
  obtain ⟨j, ct, rfl, hj, htb, hsz, hdone, hleft, hof⟩ := hrel
  by_cases hlt : j < T
  · have hold : ∀ b o, b < w.heap.size → wr.cell? ⟨b, o, none⟩ = w.cell? ⟨b, o, none⟩ := fun b o hb => (Only.cell hof (Nat.lt_of_lt_of_le hb WB.out.size) (by omega)).trans (WB.out.cell (p := ⟨b, o, none⟩) hb)
    obtain ⟨q, hq, hoq⟩ := HSO.out.2.2.2 j hlt
    have hcq := (hold bo (oo + j) HSO.out.2.2.1).trans hq
    have CR := Lib.hid (CB.out.only hof (show ¬ gT + 1 = gT by omega))
    have hcc := CR.out.cell
    have hct := (htb.cell (j * 9)).trans (hleft j (Nat.le_refl _) hlt).1
    have hft := htb.frozen
    have i0 : (0 : Int) ≤ j := by omega
    have i1 : (j : Int) < T := by omega
    have i2 : (T : Int) ≤ 8 := by omega
    have HTB := Lib.hid htb
    have HD := Lib.hid (And.intro hdone (And.intro hleft (And.intro hof hold)))
    have HQ := Lib.hid (And.intro hq hoq)
    clear htb hdone hleft hof hold hq hoq
    go_wp2_with fail
    go_region
    have T2 := Lib.hid ((HTB.out.set_ (j * 9) (.slice q.A q.n q.c)).drew)
    have O2 := Lib.hid ((HD.out.2.2.1.set_ ⟨gT, j * 9, none⟩ (.inl rfl) (.slice q.A q.n q.c)).drew)
    have SW := Lib.hid (((Only.refl (fun g => g = gT) wr).set_ ⟨gT, j * 9, none⟩ (.inl rfl) (.slice q.A q.n q.c)).drew)
    clear hcq hcc hct hft
    generalize (wr.setCell ⟨gT, j * 9, none⟩ (.slice q.A q.n q.c)).drew = W2 at T2 O2 SW ⊢
    go_wp2
    go_roundw
    case rel =>
      refine ⟨j + 1, _, by go_num, by omega, T2.out, by rw [Array.size_setIfInBounds]; exact hsz, fun m hm => ?_, fun m hm hmT => ?_, O2.out⟩
      · by_cases hmj : m = j
        · subst hmj
          exact ⟨q, idle_set0 (HD.out.2.1 m (Nat.le_refl _) hlt) q, HQ.out.2⟩
        · obtain ⟨q', h1, h2⟩ := HD.out.1 m (by omega)
          exact ⟨q', idle_setother h1 (by omega) _, h2⟩
      · exact idle_setother (HD.out.2.1 m (by omega) hmT) (by omega) _
    case measure => simp [intOf]; omega
  · have TBj := Lib.hid htb
    have HD := Lib.hid (And.intro hdone hof)
    have HJ : Hid (j = T) := Lib.hid (by omega)
    have hjT : j = T := HJ.out
    subst hjT
    have CR := Lib.hid (CB.out.only hof (show ¬ gT + 1 = gT by omega))
    have XR := Lib.hid (XB.out.only hof (Blk.ne XB.out TB.out (by decide)))
    have YR := Lib.hid (YB.out.only hof (Blk.ne YB.out TB.out (by decide)))
    have ZR := Lib.hid (ZB.out.only hof (Blk.ne ZB.out TB.out (by decide)))
    have WR : Hid (Below w.heap.size w wr) := Lib.hid (WB.out.trans (hof.below WB.out.size (fun g hg => by omega)))
    have hxc := XR.out.cell
    have hgz := CR.out.lt
    clear htb hdone hof hleft hsz hj hlt
    go_wp2_with (go_at_call 54; go_must (refine (new_yes _ k K j M k1 k2 a1 a2 t1 t2 m1 m2).mono ?_); rintro e w4 ⟨r4, rfl, hs4, hm4, h54, hb4⟩; go_must (have C4 := Lib.hid (CR.out.below hb4 CR.out.lt); have T4 := Lib.hid (TBj.out.below hb4 TBj.out.lt); have X4 := Lib.hid (XR.out.below hb4 XR.out.lt); have Y4 := Lib.hid (YR.out.below hb4 YR.out.lt); have Z4 := Lib.hid (ZR.out.below hb4 ZR.out.lt); have W4 := Lib.hid (WR.out.trans (hb4.mono WR.out.size)); have B4 := Lib.hid hb4; have E4 : Hid (Endw w4 w.heap.size r4 (newM k K j M)) := Lib.hid ⟨hs4, hm4, fun ar hl => (h54.1 ar hl).weaken WR.out.size⟩; have E4L : Hid (∀ ar, la ar → ∀ ad, (r4.sl ar).A = some ad → ad.block ≠ gT + 1) := Lib.hid (fun ar hl ad had e => by have := ((h54.1 ar hl).lt had).1; omega); have hcc4 := C4.out.cell; have hcf4 := C4.out.frozen); clear hs4 hm4 h54 hb4 hxc)
    have CN := Lib.hid C4.out
    have U4 : Hid (Only (fun g => g = gT + 1) w4 w4) := Lib.hid (Only.refl _ _)
    have hgT1 : ¬ gT = gT + 1 := by omega
    have hX1 : ¬ w.heap.size = gT + 1 := by omega
    have hY1 : ¬ w.heap.size + 1 = gT + 1 := by omega
    have hZ1 : ¬ w.heap.size + 1 + 1 = gT + 1 := by omega
    have W4s := W4.out.size
    clear hcc4 hcf4
    have C4_ : Hid (Blk (((((((((w4.setCell ⟨(gT + 1), 4, none⟩ (.int .u64 r4.e)).setCell ⟨(gT + 1), 5, none⟩ (.int .u64 r4.f)).setCell ⟨(gT + 1), 6, none⟩ (.slice r4.L.A r4.L.n r4.L.c)).setCell ⟨(gT + 1), 7, none⟩ (.slice r4.P.A r4.P.n r4.P.c)).setCell ⟨(gT + 1), 8, none⟩ (.int .u64 r4.h)).setCell ⟨(gT + 1), 9, none⟩ (.int .u64 r4.t)).setCell ⟨(gT + 1), 10, none⟩ (.slice r4.K.A r4.K.n r4.K.c)).setCell ⟨(gT + 1), 11, none⟩ (.slice r4.X.A r4.X.n r4.X.c)).setCell ⟨(gT + 1), 12, none⟩ (.slice r4.S.A r4.S.n r4.S.c)) (gT + 1) 102 #[.func (.func Bf) #[] bs, .slice (some ⟨gT, 0, none⟩) j j, .slice none 0 0, .slice none 0 0, .int .u64 r4.e, .int .u64 r4.f, .slice r4.L.A r4.L.n r4.L.c, .slice r4.P.A r4.P.n r4.P.c, .int .u64 r4.h, .int .u64 r4.t, .slice r4.K.A r4.K.n r4.K.c, .slice r4.X.A r4.X.n r4.X.c, .slice r4.S.A r4.S.n r4.S.c]) := Lib.hid (by have h_ := (Blk.set_ (Blk.set_ (Blk.set_ (Blk.set_ (Blk.set_ (Blk.set_ (Blk.set_ (Blk.set_ (Blk.set_ C4.out 4 (.int .u64 r4.e)) 5 (.int .u64 r4.f)) 6 (.slice r4.L.A r4.L.n r4.L.c)) 7 (.slice r4.P.A r4.P.n r4.P.c)) 8 (.int .u64 r4.h)) 9 (.int .u64 r4.t)) 10 (.slice r4.K.A r4.K.n r4.K.c)) 11 (.slice r4.X.A r4.X.n r4.X.c)) 12 (.slice r4.S.A r4.S.n r4.S.c)); simpa only [List.setIfInBounds_toArray, List.set_cons_zero, List.set_cons_succ] using h_)
    have T4_ := Lib.hid (Blk.far (Blk.far (Blk.far (Blk.far (Blk.far (Blk.far (Blk.far (Blk.far (Blk.far T4.out (p := ⟨(gT + 1), 4, none⟩) hgT1 (.int .u64 r4.e)) (p := ⟨(gT + 1), 5, none⟩) hgT1 (.int .u64 r4.f)) (p := ⟨(gT + 1), 6, none⟩) hgT1 (.slice r4.L.A r4.L.n r4.L.c)) (p := ⟨(gT + 1), 7, none⟩) hgT1 (.slice r4.P.A r4.P.n r4.P.c)) (p := ⟨(gT + 1), 8, none⟩) hgT1 (.int .u64 r4.h)) (p := ⟨(gT + 1), 9, none⟩) hgT1 (.int .u64 r4.t)) (p := ⟨(gT + 1), 10, none⟩) hgT1 (.slice r4.K.A r4.K.n r4.K.c)) (p := ⟨(gT + 1), 11, none⟩) hgT1 (.slice r4.X.A r4.X.n r4.X.c)) (p := ⟨(gT + 1), 12, none⟩) hgT1 (.slice r4.S.A r4.S.n r4.S.c))
    have X4_ := Lib.hid (Blk.far (Blk.far (Blk.far (Blk.far (Blk.far (Blk.far (Blk.far (Blk.far (Blk.far X4.out (p := ⟨(gT + 1), 4, none⟩) hX1 (.int .u64 r4.e)) (p := ⟨(gT + 1), 5, none⟩) hX1 (.int .u64 r4.f)) (p := ⟨(gT + 1), 6, none⟩) hX1 (.slice r4.L.A r4.L.n r4.L.c)) (p := ⟨(gT + 1), 7, none⟩) hX1 (.slice r4.P.A r4.P.n r4.P.c)) (p := ⟨(gT + 1), 8, none⟩) hX1 (.int .u64 r4.h)) (p := ⟨(gT + 1), 9, none⟩) hX1 (.int .u64 r4.t)) (p := ⟨(gT + 1), 10, none⟩) hX1 (.slice r4.K.A r4.K.n r4.K.c)) (p := ⟨(gT + 1), 11, none⟩) hX1 (.slice r4.X.A r4.X.n r4.X.c)) (p := ⟨(gT + 1), 12, none⟩) hX1 (.slice r4.S.A r4.S.n r4.S.c))
    have Y4_ := Lib.hid (Blk.far (Blk.far (Blk.far (Blk.far (Blk.far (Blk.far (Blk.far (Blk.far (Blk.far Y4.out (p := ⟨(gT + 1), 4, none⟩) hY1 (.int .u64 r4.e)) (p := ⟨(gT + 1), 5, none⟩) hY1 (.int .u64 r4.f)) (p := ⟨(gT + 1), 6, none⟩) hY1 (.slice r4.L.A r4.L.n r4.L.c)) (p := ⟨(gT + 1), 7, none⟩) hY1 (.slice r4.P.A r4.P.n r4.P.c)) (p := ⟨(gT + 1), 8, none⟩) hY1 (.int .u64 r4.h)) (p := ⟨(gT + 1), 9, none⟩) hY1 (.int .u64 r4.t)) (p := ⟨(gT + 1), 10, none⟩) hY1 (.slice r4.K.A r4.K.n r4.K.c)) (p := ⟨(gT + 1), 11, none⟩) hY1 (.slice r4.X.A r4.X.n r4.X.c)) (p := ⟨(gT + 1), 12, none⟩) hY1 (.slice r4.S.A r4.S.n r4.S.c))
    have Z4_ := Lib.hid (Blk.far (Blk.far (Blk.far (Blk.far (Blk.far (Blk.far (Blk.far (Blk.far (Blk.far Z4.out (p := ⟨(gT + 1), 4, none⟩) hZ1 (.int .u64 r4.e)) (p := ⟨(gT + 1), 5, none⟩) hZ1 (.int .u64 r4.f)) (p := ⟨(gT + 1), 6, none⟩) hZ1 (.slice r4.L.A r4.L.n r4.L.c)) (p := ⟨(gT + 1), 7, none⟩) hZ1 (.slice r4.P.A r4.P.n r4.P.c)) (p := ⟨(gT + 1), 8, none⟩) hZ1 (.int .u64 r4.h)) (p := ⟨(gT + 1), 9, none⟩) hZ1 (.int .u64 r4.t)) (p := ⟨(gT + 1), 10, none⟩) hZ1 (.slice r4.K.A r4.K.n r4.K.c)) (p := ⟨(gT + 1), 11, none⟩) hZ1 (.slice r4.X.A r4.X.n r4.X.c)) (p := ⟨(gT + 1), 12, none⟩) hZ1 (.slice r4.S.A r4.S.n r4.S.c))
    have E4_ := Lib.hid (Endw.kept (w' := (((((((((w4.setCell ⟨(gT + 1), 4, none⟩ (.int .u64 r4.e)).setCell ⟨(gT + 1), 5, none⟩ (.int .u64 r4.f)).setCell ⟨(gT + 1), 6, none⟩ (.slice r4.L.A r4.L.n r4.L.c)).setCell ⟨(gT + 1), 7, none⟩ (.slice r4.P.A r4.P.n r4.P.c)).setCell ⟨(gT + 1), 8, none⟩ (.int .u64 r4.h)).setCell ⟨(gT + 1), 9, none⟩ (.int .u64 r4.t)).setCell ⟨(gT + 1), 10, none⟩ (.slice r4.K.A r4.K.n r4.K.c)).setCell ⟨(gT + 1), 11, none⟩ (.slice r4.X.A r4.X.n r4.X.c)).setCell ⟨(gT + 1), 12, none⟩ (.slice r4.S.A r4.S.n r4.S.c))) (Endw.kept (w' := ((((((((w4.setCell ⟨(gT + 1), 4, none⟩ (.int .u64 r4.e)).setCell ⟨(gT + 1), 5, none⟩ (.int .u64 r4.f)).setCell ⟨(gT + 1), 6, none⟩ (.slice r4.L.A r4.L.n r4.L.c)).setCell ⟨(gT + 1), 7, none⟩ (.slice r4.P.A r4.P.n r4.P.c)).setCell ⟨(gT + 1), 8, none⟩ (.int .u64 r4.h)).setCell ⟨(gT + 1), 9, none⟩ (.int .u64 r4.t)).setCell ⟨(gT + 1), 10, none⟩ (.slice r4.K.A r4.K.n r4.K.c)).setCell ⟨(gT + 1), 11, none⟩ (.slice r4.X.A r4.X.n r4.X.c))) (Endw.kept (w' := (((((((w4.setCell ⟨(gT + 1), 4, none⟩ (.int .u64 r4.e)).setCell ⟨(gT + 1), 5, none⟩ (.int .u64 r4.f)).setCell ⟨(gT + 1), 6, none⟩ (.slice r4.L.A r4.L.n r4.L.c)).setCell ⟨(gT + 1), 7, none⟩ (.slice r4.P.A r4.P.n r4.P.c)).setCell ⟨(gT + 1), 8, none⟩ (.int .u64 r4.h)).setCell ⟨(gT + 1), 9, none⟩ (.int .u64 r4.t)).setCell ⟨(gT + 1), 10, none⟩ (.slice r4.K.A r4.K.n r4.K.c))) (Endw.kept (w' := ((((((w4.setCell ⟨(gT + 1), 4, none⟩ (.int .u64 r4.e)).setCell ⟨(gT + 1), 5, none⟩ (.int .u64 r4.f)).setCell ⟨(gT + 1), 6, none⟩ (.slice r4.L.A r4.L.n r4.L.c)).setCell ⟨(gT + 1), 7, none⟩ (.slice r4.P.A r4.P.n r4.P.c)).setCell ⟨(gT + 1), 8, none⟩ (.int .u64 r4.h)).setCell ⟨(gT + 1), 9, none⟩ (.int .u64 r4.t))) (Endw.kept (w' := (((((w4.setCell ⟨(gT + 1), 4, none⟩ (.int .u64 r4.e)).setCell ⟨(gT + 1), 5, none⟩ (.int .u64 r4.f)).setCell ⟨(gT + 1), 6, none⟩ (.slice r4.L.A r4.L.n r4.L.c)).setCell ⟨(gT + 1), 7, none⟩ (.slice r4.P.A r4.P.n r4.P.c)).setCell ⟨(gT + 1), 8, none⟩ (.int .u64 r4.h))) (Endw.kept (w' := ((((w4.setCell ⟨(gT + 1), 4, none⟩ (.int .u64 r4.e)).setCell ⟨(gT + 1), 5, none⟩ (.int .u64 r4.f)).setCell ⟨(gT + 1), 6, none⟩ (.slice r4.L.A r4.L.n r4.L.c)).setCell ⟨(gT + 1), 7, none⟩ (.slice r4.P.A r4.P.n r4.P.c))) (Endw.kept (w' := (((w4.setCell ⟨(gT + 1), 4, none⟩ (.int .u64 r4.e)).setCell ⟨(gT + 1), 5, none⟩ (.int .u64 r4.f)).setCell ⟨(gT + 1), 6, none⟩ (.slice r4.L.A r4.L.n r4.L.c))) (Endw.kept (w' := ((w4.setCell ⟨(gT + 1), 4, none⟩ (.int .u64 r4.e)).setCell ⟨(gT + 1), 5, none⟩ (.int .u64 r4.f))) (Endw.kept (w' := (w4.setCell ⟨(gT + 1), 4, none⟩ (.int .u64 r4.e))) E4.out (fun ar hl_ ad_ ha_ => Below.heap_setCell _ _ _ _ (E4L.out ar hl_ ad_ ha_))) (fun ar hl_ ad_ ha_ => Below.heap_setCell _ _ _ _ (E4L.out ar hl_ ad_ ha_))) (fun ar hl_ ad_ ha_ => Below.heap_setCell _ _ _ _ (E4L.out ar hl_ ad_ ha_))) (fun ar hl_ ad_ ha_ => Below.heap_setCell _ _ _ _ (E4L.out ar hl_ ad_ ha_))) (fun ar hl_ ad_ ha_ => Below.heap_setCell _ _ _ _ (E4L.out ar hl_ ad_ ha_))) (fun ar hl_ ad_ ha_ => Below.heap_setCell _ _ _ _ (E4L.out ar hl_ ad_ ha_))) (fun ar hl_ ad_ ha_ => Below.heap_setCell _ _ _ _ (E4L.out ar hl_ ad_ ha_))) (fun ar hl_ ad_ ha_ => Below.heap_setCell _ _ _ _ (E4L.out ar hl_ ad_ ha_))) (fun ar hl_ ad_ ha_ => Below.heap_setCell _ _ _ _ (E4L.out ar hl_ ad_ ha_)))
    have U4_ := Lib.hid (Only.set_ (Only.set_ (Only.set_ (Only.set_ (Only.set_ (Only.set_ (Only.set_ (Only.set_ (Only.set_ U4.out ⟨(gT + 1), 4, none⟩ (.inl rfl) (.int .u64 r4.e)) ⟨(gT + 1), 5, none⟩ (.inl rfl) (.int .u64 r4.f)) ⟨(gT + 1), 6, none⟩ (.inl rfl) (.slice r4.L.A r4.L.n r4.L.c)) ⟨(gT + 1), 7, none⟩ (.inl rfl) (.slice r4.P.A r4.P.n r4.P.c)) ⟨(gT + 1), 8, none⟩ (.inl rfl) (.int .u64 r4.h)) ⟨(gT + 1), 9, none⟩ (.inl rfl) (.int .u64 r4.t)) ⟨(gT + 1), 10, none⟩ (.inl rfl) (.slice r4.K.A r4.K.n r4.K.c)) ⟨(gT + 1), 11, none⟩ (.inl rfl) (.slice r4.X.A r4.X.n r4.X.c)) ⟨(gT + 1), 12, none⟩ (.inl rfl) (.slice r4.S.A r4.S.n r4.S.c))
    clear C4 T4 X4 Y4 Z4 E4 U4
    have C4 := Lib.hid C4_.out
    have T4 := Lib.hid T4_.out
    have X4 := Lib.hid X4_.out
    have Y4 := Lib.hid Y4_.out
    have Z4 := Lib.hid Z4_.out
    have E4 := Lib.hid E4_.out
    have U4 := Lib.hid U4_.out
    clear C4_ T4_ X4_ Y4_ Z4_ E4_ U4_
    generalize (((((((((w4.setCell ⟨(gT + 1), 4, none⟩ (.int .u64 r4.e)).setCell ⟨(gT + 1), 5, none⟩ (.int .u64 r4.f)).setCell ⟨(gT + 1), 6, none⟩ (.slice r4.L.A r4.L.n r4.L.c)).setCell ⟨(gT + 1), 7, none⟩ (.slice r4.P.A r4.P.n r4.P.c)).setCell ⟨(gT + 1), 8, none⟩ (.int .u64 r4.h)).setCell ⟨(gT + 1), 9, none⟩ (.int .u64 r4.t)).setCell ⟨(gT + 1), 10, none⟩ (.slice r4.K.A r4.K.n r4.K.c)).setCell ⟨(gT + 1), 11, none⟩ (.slice r4.X.A r4.X.n r4.X.c)).setCell ⟨(gT + 1), 12, none⟩ (.slice r4.S.A r4.S.n r4.S.c)) = V5 at C4 T4 X4 Y4 Z4 E4 U4 ⊢
    have W5 : Hid (Below w.heap.size w V5) := Lib.hid (W4.out.trans (U4.out.below W4.out.size (fun g hg => by omega)))
    have hnm : (newM k K j M).ok := newM_ok _ _ _ _ m2
    have I5 : InvG V5 B w.heap.size (gT + 1) gT j Bf bs lb Z ls (RS.first (newM k K j M) j) := by
      refine ⟨⟨r4, ⟨none, 0, 0⟩, ⟨none, 0, 0⟩, ct, fun _ => 0, fun _ => ⟨none, 0, 0⟩, C4.out, T4.out, E4.out, row_nil _ _ _ _, row_nil _ _ _ _, fun m hm => ?_, fun a b _ _ _ ha _ => ?_⟩, ⟨HCAPT.out.1, fun x hx => (HCAPT.out.2.1 x hx).below W5.out (HCAPT.out.2.1 x hx).lt, HCAPT.out.2.2.1⟩, ⟨List.length_replicate .., List.length_replicate .., List.length_replicate ..⟩, fun ar => Refc.few_area (Replr.newM_few k K j M a2 t2 m2) ar, ?_, t2⟩
      · obtain ⟨q, h1, h2⟩ := HD.out.1 m hm
        obtain ⟨l, hl2⟩ : ∃ l, ls[m]? = some l := ⟨_, List.getElem?_eq_getElem (by have := HLS.out.1; omega)⟩
        rw [getD_of hl2] at h2
        refine ⟨0, q, l, hl2, ?_, Nat.zero_le _, h2.below (W5.out.mono hB), .inl ⟨?_, h1⟩⟩
        · show (List.replicate j (0 : Int))[m]? = _
          rw [List.getElem?_replicate, if_pos hm]; rfl
        · show (List.replicate j (-1 : Int))[m]? = _
          rw [List.getElem?_replicate, if_pos hm]
      · obtain ⟨kk, hkk⟩ := ha
        have e : (List.replicate j (-1 : Int))[a]? = some (kk : Int) := hkk
        have hlt := (List.getElem?_eq_some_iff.1 e).1
        rw [List.length_replicate] at hlt
        rw [List.getElem?_replicate, if_pos hlt] at e
        have := Option.some.inj e
        omega
      · have h1 : gT < V5.heap.size := T4.out.lt
        have h2 := W4.out.size
        refine ⟨hB, W5.out.size, ?_, ?_⟩ <;> omega
    have OK5 : OkR G j (RS.first (newM k K j M) j) ∧ AtR ls (RS.first (newM k K j M) j) := by
      refine ⟨⟨hnm, ⟨List.length_replicate .., List.length_replicate .., List.length_replicate ..⟩, fun i f ho _ => ?_, fun i hi => .inl ?_⟩, fun i l hl2 => ⟨0, ?_, Nat.zero_le _⟩⟩
      · obtain ⟨kk, hkk⟩ := ho
        have e : (List.replicate j (-1 : Int))[i]? = some (kk : Int) := hkk
        have hlt := (List.getElem?_eq_some_iff.1 e).1
        rw [List.length_replicate] at hlt
        rw [List.getElem?_replicate, if_pos hlt] at e
        have := Option.some.inj e
        omega
      · show (List.replicate j (-1 : Int))[i]? = _
        rw [List.getElem?_replicate, if_pos hi]
      · have hi : i < j := by have h1 := (List.getElem?_eq_some_iff.1 hl2).1; have h2 := HLS.out.1; omega
        show (List.replicate j (0 : Int))[i]? = _
        rw [List.getElem?_replicate, if_pos hi]; rfl
    have HOK5 := Lib.hid OK5
    clear OK5 hnm
    have I5' := Lib.hid I5
    have hpn := HP.out.1
    have hpm : (pn : Int) ≤ 9223372036854775807 := by have h1 := HP.out.2.1; have h2 := HP.out.2.2.1; simp only at h1 h2; unfold maxLen at h2; omega
    simp only at hpn
    have HPL := Lib.hid hpn
    clear hpn I5 hX1 hY1 hZ1 W4s hgT1
    go_loopw [50] (fun i wr => ∃ (m : Nat), i = .int .i64 m ∧ m ≤ pn ∧ InvG wr B w.heap.size (gT + 1) gT j Bf bs lb Z ls (runM Z ls (RS.first (newM k K j M) j) (ps.take m)) ∧ FrG B V5 wr ∧ OkR G j (runM Z ls (RS.first (newM k K j M) j) (ps.take m)) ∧ AtR ls (runM Z ls (RS.first (newM k K j M) j) (ps.take m)) ∧ (runM Z ls (RS.first (newM k K j M) j) (ps.take m)).steps.length ≤ m ∧ (runM Z ls (RS.first (newM k K j M) j) (ps.take m)).calls.length ≤ m) (fun i _ => pn - (intOf i).toNat)
    case atStart => exact ⟨0, rfl, Nat.zero_le _, I5'.out, Only.refl _ _, HOK5.out.1, HOK5.out.2, Nat.le_refl _, Nat.le_refl _⟩
    case round =>
    obtain ⟨m, rfl, hm, hI, hF, hO1, hA1, hst1, hst2⟩ := hrel
    have HOA := Lib.hid (And.intro hO1 (And.intro hA1 (And.intro hst1 hst2)))
    clear hO1 hA1 hst1 hst2
    have HI := Lib.hid hI
    have HF := Lib.hid hF
    clear hI hF
    by_cases hlt : m < pn
    · obtain ⟨b, off, hA, hbB, hcc⟩ := HP.out.2.2.2.2 (by show 0 < pn; omega)
      simp only at hA
      subst hA
      obtain ⟨x, hx⟩ : ∃ x, ps[m]? = some x := ⟨_, List.getElem?_eq_getElem (by have := HPL.out; omega)⟩
      have hxx := hcc m x hx
      have hold := fun o => ((FrG.below HF.out (Nat.le_trans hB W5.out.size)).cell (p := ⟨b, o, none⟩) hbB).trans ((W5.out.mono hB).cell (p := ⟨b, o, none⟩) hbB)
      have hc0 := (hold (off + m * 2)).trans hxx.1
      have hc1 := (hold (off + m * 2 + 1)).trans hxx.2
      have HX := Lib.hid hx
      have i0 : (0 : Int) ≤ m := by omega
      have i1 : (m : Int) < pn := by omega
      have hst : (runM Z ls (RS.first (newM k K j M) j) (ps.take m)).steps.length < 80000 ∧ (runM Z ls (RS.first (newM k K j M) j) (ps.take m)).calls.length < 80000 := by
        have h1 := HOA.out.2.2
        have h3 := HPN.out
        have h4 := HPL.out
        omega
      have hopx : OkOps ok ls x.2 := HCAPT.out.2.2.2.2.2 x (List.mem_of_getElem? hx)
      have HOPX := Lib.hid hopx
      clear hopx
      have HST := Lib.hid hst
      clear hcc hx hxx hold hst
      go_wp2_with (go_at_call 57; go_must (refine (turng_c _ B w.heap.size (gT + 1) gT j Bf bs lb Z ls _ (HI.out.later ((Below.refl _ _).alloc (Nat.le_refl _) _)) ok G HCAPT.out.2.2.2.1 HCAPT.out.2.2.2.2.1 HLS.out.1 HOA.out.1 HOA.out.2.1 x.1 x.2 HOPX.out HST.out).mono ?_); rintro e w7 ⟨rfl, hI7, hF7⟩; go_must (have I7 := Lib.hid hI7; have F7 := Lib.hid ((HF.out.trans (FrG.of_below ((Below.refl _ _).alloc (Nat.le_refl _) _))).trans hF7)); clear hI7 hF7)
      go_roundw
      case rel =>
        have hmk2 := turnM_ok HCAPT.out.2.2.2.1 HLS.out.1 HOA.out.1 HOA.out.2.1 x.1 x.2 HOPX.out
        have hrt : runM Z ls (RS.first (newM k K j M) j) (ps.take (m + 1)) = turnM Z ls (runM Z ls (RS.first (newM k K j M) j) (ps.take m)) x.1 x.2 := runM_take HX.out
        refine ⟨m + 1, by go_num, by omega, ?_, F7.out, ?_, ?_, ?_, ?_⟩
        · rw [hrt]; exact I7.out
        · rw [hrt]; exact hmk2.1
        · rw [hrt]; exact hmk2.2.1
        · rw [hrt]; exact Nat.le_trans hmk2.2.2.1 (Nat.succ_le_succ HOA.out.2.2.1)
        · rw [hrt]; exact Nat.le_trans hmk2.2.2.2 (Nat.succ_le_succ HOA.out.2.2.2)
      case measure => simp [intOf]; omega
    · have hmp : m = pn := by omega
      subst hmp
      have htk : ps.take m = ps := List.take_of_length_le (by have := HPL.out; omega)
      rw [htk] at HI
      obtain ⟨rf, sS, sK, ctf, Psf, qsf, hCf, hTf, hEf, hSf, hKf, hrest⟩ := HI.out.ex
      have CF := Lib.hid hCf
      have EF := Lib.hid hEf
      have SF := Lib.hid hSf
      have KF := Lib.hid hKf
      have YF := Lib.hid (HF.out.blk Y4.out (by decide))
      have ZF := Lib.hid (HF.out.blk Z4.out (by decide))
      have hcF := CF.out.cell
      have hyF := YF.out.cell
      have hyf := YF.out.frozen
      have hzF := ZF.out.cell
      have hzf := ZF.out.frozen
      have hCY : ¬ gT + 1 = w.heap.size + 1 := Blk.ne CF.out YF.out (by decide)
      have hCZ : ¬ gT + 1 = w.heap.size + 1 + 1 := Blk.ne CF.out ZF.out (by decide)
      clear hCf hTf hEf hSf hKf hrest
      go_wp2
      have OE : Hid (Only (fun g => g = w.heap.size + 1 ∨ g = w.heap.size + 1 + 1) wr ((((((((((((wr.setCell ⟨(w.heap.size + 1), 0, none⟩ (.slice sS.A sS.n sS.c)).setCell ⟨(w.heap.size + 1), 1, none⟩ (.slice sK.A sK.n sK.c)).setCell ⟨(w.heap.size + 1), 2, none⟩ (.int .u64 rf.e)).setCell ⟨(w.heap.size + 1), 3, none⟩ (.int .u64 rf.f)).setCell ⟨(w.heap.size + 1), 4, none⟩ (.slice rf.L.A rf.L.n rf.L.c)).setCell ⟨(w.heap.size + 1), 5, none⟩ (.slice rf.P.A rf.P.n rf.P.c)).setCell ⟨(w.heap.size + 1), 6, none⟩ (.int .u64 rf.h)).setCell ⟨(w.heap.size + 1), 7, none⟩ (.int .u64 rf.t)).setCell ⟨(w.heap.size + 1), 8, none⟩ (.slice rf.K.A rf.K.n rf.K.c)).setCell ⟨(w.heap.size + 1), 9, none⟩ (.slice rf.X.A rf.X.n rf.X.c)).setCell ⟨(w.heap.size + 1), 10, none⟩ (.slice rf.S.A rf.S.n rf.S.c)).setCell ⟨(w.heap.size + 1 + 1), 0, none⟩ (.int .i64 0))) := Lib.hid ((Only.set_ (Only.set_ (Only.set_ (Only.set_ (Only.set_ (Only.set_ (Only.set_ (Only.set_ (Only.set_ (Only.set_ (Only.set_ (Only.set_ (Only.refl (fun g => g = w.heap.size + 1 ∨ g = w.heap.size + 1 + 1) wr) ⟨(w.heap.size + 1), 0, none⟩ (.inl (.inl rfl)) (.slice sS.A sS.n sS.c)) ⟨(w.heap.size + 1), 1, none⟩ (.inl (.inl rfl)) (.slice sK.A sK.n sK.c)) ⟨(w.heap.size + 1), 2, none⟩ (.inl (.inl rfl)) (.int .u64 rf.e)) ⟨(w.heap.size + 1), 3, none⟩ (.inl (.inl rfl)) (.int .u64 rf.f)) ⟨(w.heap.size + 1), 4, none⟩ (.inl (.inl rfl)) (.slice rf.L.A rf.L.n rf.L.c)) ⟨(w.heap.size + 1), 5, none⟩ (.inl (.inl rfl)) (.slice rf.P.A rf.P.n rf.P.c)) ⟨(w.heap.size + 1), 6, none⟩ (.inl (.inl rfl)) (.int .u64 rf.h)) ⟨(w.heap.size + 1), 7, none⟩ (.inl (.inl rfl)) (.int .u64 rf.t)) ⟨(w.heap.size + 1), 8, none⟩ (.inl (.inl rfl)) (.slice rf.K.A rf.K.n rf.K.c)) ⟨(w.heap.size + 1), 9, none⟩ (.inl (.inl rfl)) (.slice rf.X.A rf.X.n rf.X.c)) ⟨(w.heap.size + 1), 10, none⟩ (.inl (.inl rfl)) (.slice rf.S.A rf.S.n rf.S.c)) ⟨(w.heap.size + 1 + 1), 0, none⟩ (.inl (.inr rfl)) (.int .i64 0)))
      have YE : Hid (Blk ((((((((((((wr.setCell ⟨(w.heap.size + 1), 0, none⟩ (.slice sS.A sS.n sS.c)).setCell ⟨(w.heap.size + 1), 1, none⟩ (.slice sK.A sK.n sK.c)).setCell ⟨(w.heap.size + 1), 2, none⟩ (.int .u64 rf.e)).setCell ⟨(w.heap.size + 1), 3, none⟩ (.int .u64 rf.f)).setCell ⟨(w.heap.size + 1), 4, none⟩ (.slice rf.L.A rf.L.n rf.L.c)).setCell ⟨(w.heap.size + 1), 5, none⟩ (.slice rf.P.A rf.P.n rf.P.c)).setCell ⟨(w.heap.size + 1), 6, none⟩ (.int .u64 rf.h)).setCell ⟨(w.heap.size + 1), 7, none⟩ (.int .u64 rf.t)).setCell ⟨(w.heap.size + 1), 8, none⟩ (.slice rf.K.A rf.K.n rf.K.c)).setCell ⟨(w.heap.size + 1), 9, none⟩ (.slice rf.X.A rf.X.n rf.X.c)).setCell ⟨(w.heap.size + 1), 10, none⟩ (.slice rf.S.A rf.S.n rf.S.c)).setCell ⟨(w.heap.size + 1 + 1), 0, none⟩ (.int .i64 0)) (w.heap.size + 1) 35 #[.slice sS.A sS.n sS.c, .slice sK.A sK.n sK.c, .int .u64 rf.e, .int .u64 rf.f, .slice rf.L.A rf.L.n rf.L.c, .slice rf.P.A rf.P.n rf.P.c, .int .u64 rf.h, .int .u64 rf.t, .slice rf.K.A rf.K.n rf.K.c, .slice rf.X.A rf.X.n rf.X.c, .slice rf.S.A rf.S.n rf.S.c]) := Lib.hid (by have h_ := (Blk.far (Blk.set_ (Blk.set_ (Blk.set_ (Blk.set_ (Blk.set_ (Blk.set_ (Blk.set_ (Blk.set_ (Blk.set_ (Blk.set_ (Blk.set_ YF.out 0 (.slice sS.A sS.n sS.c)) 1 (.slice sK.A sK.n sK.c)) 2 (.int .u64 rf.e)) 3 (.int .u64 rf.f)) 4 (.slice rf.L.A rf.L.n rf.L.c)) 5 (.slice rf.P.A rf.P.n rf.P.c)) 6 (.int .u64 rf.h)) 7 (.int .u64 rf.t)) 8 (.slice rf.K.A rf.K.n rf.K.c)) 9 (.slice rf.X.A rf.X.n rf.X.c)) 10 (.slice rf.S.A rf.S.n rf.S.c)) (p := ⟨(w.heap.size + 1 + 1), 0, none⟩) (show ¬ w.heap.size + 1 = w.heap.size + 1 + 1 by omega) (.int .i64 0)); simpa only [List.setIfInBounds_toArray, List.set_cons_zero, List.set_cons_succ] using h_)
      have ZE : Hid (Blk ((((((((((((wr.setCell ⟨(w.heap.size + 1), 0, none⟩ (.slice sS.A sS.n sS.c)).setCell ⟨(w.heap.size + 1), 1, none⟩ (.slice sK.A sK.n sK.c)).setCell ⟨(w.heap.size + 1), 2, none⟩ (.int .u64 rf.e)).setCell ⟨(w.heap.size + 1), 3, none⟩ (.int .u64 rf.f)).setCell ⟨(w.heap.size + 1), 4, none⟩ (.slice rf.L.A rf.L.n rf.L.c)).setCell ⟨(w.heap.size + 1), 5, none⟩ (.slice rf.P.A rf.P.n rf.P.c)).setCell ⟨(w.heap.size + 1), 6, none⟩ (.int .u64 rf.h)).setCell ⟨(w.heap.size + 1), 7, none⟩ (.int .u64 rf.t)).setCell ⟨(w.heap.size + 1), 8, none⟩ (.slice rf.K.A rf.K.n rf.K.c)).setCell ⟨(w.heap.size + 1), 9, none⟩ (.slice rf.X.A rf.X.n rf.X.c)).setCell ⟨(w.heap.size + 1), 10, none⟩ (.slice rf.S.A rf.S.n rf.S.c)).setCell ⟨(w.heap.size + 1 + 1), 0, none⟩ (.int .i64 0)) (w.heap.size + 1 + 1) 36 #[.int .i64 0]) := Lib.hid (by have h_ := (Blk.set_ (Blk.far (Blk.far (Blk.far (Blk.far (Blk.far (Blk.far (Blk.far (Blk.far (Blk.far (Blk.far (Blk.far ZF.out (p := ⟨(w.heap.size + 1), 0, none⟩) (show ¬ w.heap.size + 1 + 1 = w.heap.size + 1 by omega) (.slice sS.A sS.n sS.c)) (p := ⟨(w.heap.size + 1), 1, none⟩) (show ¬ w.heap.size + 1 + 1 = w.heap.size + 1 by omega) (.slice sK.A sK.n sK.c)) (p := ⟨(w.heap.size + 1), 2, none⟩) (show ¬ w.heap.size + 1 + 1 = w.heap.size + 1 by omega) (.int .u64 rf.e)) (p := ⟨(w.heap.size + 1), 3, none⟩) (show ¬ w.heap.size + 1 + 1 = w.heap.size + 1 by omega) (.int .u64 rf.f)) (p := ⟨(w.heap.size + 1), 4, none⟩) (show ¬ w.heap.size + 1 + 1 = w.heap.size + 1 by omega) (.slice rf.L.A rf.L.n rf.L.c)) (p := ⟨(w.heap.size + 1), 5, none⟩) (show ¬ w.heap.size + 1 + 1 = w.heap.size + 1 by omega) (.slice rf.P.A rf.P.n rf.P.c)) (p := ⟨(w.heap.size + 1), 6, none⟩) (show ¬ w.heap.size + 1 + 1 = w.heap.size + 1 by omega) (.int .u64 rf.h)) (p := ⟨(w.heap.size + 1), 7, none⟩) (show ¬ w.heap.size + 1 + 1 = w.heap.size + 1 by omega) (.int .u64 rf.t)) (p := ⟨(w.heap.size + 1), 8, none⟩) (show ¬ w.heap.size + 1 + 1 = w.heap.size + 1 by omega) (.slice rf.K.A rf.K.n rf.K.c)) (p := ⟨(w.heap.size + 1), 9, none⟩) (show ¬ w.heap.size + 1 + 1 = w.heap.size + 1 by omega) (.slice rf.X.A rf.X.n rf.X.c)) (p := ⟨(w.heap.size + 1), 10, none⟩) (show ¬ w.heap.size + 1 + 1 = w.heap.size + 1 by omega) (.slice rf.S.A rf.S.n rf.S.c)) 0 (.int .i64 0)); simpa only [List.setIfInBounds_toArray, List.set_cons_zero, List.set_cons_succ] using h_)
      clear hcF hyF hyf hzF hzf
      generalize ((((((((((((wr.setCell ⟨(w.heap.size + 1), 0, none⟩ (.slice sS.A sS.n sS.c)).setCell ⟨(w.heap.size + 1), 1, none⟩ (.slice sK.A sK.n sK.c)).setCell ⟨(w.heap.size + 1), 2, none⟩ (.int .u64 rf.e)).setCell ⟨(w.heap.size + 1), 3, none⟩ (.int .u64 rf.f)).setCell ⟨(w.heap.size + 1), 4, none⟩ (.slice rf.L.A rf.L.n rf.L.c)).setCell ⟨(w.heap.size + 1), 5, none⟩ (.slice rf.P.A rf.P.n rf.P.c)).setCell ⟨(w.heap.size + 1), 6, none⟩ (.int .u64 rf.h)).setCell ⟨(w.heap.size + 1), 7, none⟩ (.int .u64 rf.t)).setCell ⟨(w.heap.size + 1), 8, none⟩ (.slice rf.K.A rf.K.n rf.K.c)).setCell ⟨(w.heap.size + 1), 9, none⟩ (.slice rf.X.A rf.X.n rf.X.c)).setCell ⟨(w.heap.size + 1), 10, none⟩ (.slice rf.S.A rf.S.n rf.S.c)).setCell ⟨(w.heap.size + 1 + 1), 0, none⟩ (.int .i64 0)) = W8 at OE YE ZE ⊢
      have hpk : ∀ k, (k = w.heap.size + 1 ∨ k = w.heap.size + 1 + 1) → B ≤ k ∧ ∃ t cs, Blk wr k t cs ∧ (t = 35 ∨ t = 36) := by
        rintro k (h | h)
        · subst h; exact ⟨by omega, _, _, YF.out, .inl rfl⟩
        · subst h; exact ⟨by omega, _, _, ZF.out, .inr rfl⟩
      have I8 := InvG.away HI.out OE.out hpk
      have S8 : Hid (Row W8 w.heap.size 59 8 sS _ _) := Lib.hid (SF.out.only OE.out (fun g hg h => by obtain ⟨_, t, cs, hb, ht⟩ := hpk g h; rcases ht with ht | ht <;> (subst ht; exact SF.out.ne hb (by decide) g hg rfl)))
      have K8 : Hid (Row W8 w.heap.size 55 7 sK _ _) := Lib.hid (KF.out.only OE.out (fun g hg h => by obtain ⟨_, t, cs, hb, ht⟩ := hpk g h; rcases ht with ht | ht <;> (subst ht; exact KF.out.ne hb (by decide) g hg rfl)))
      have E8 := Lib.hid (EF.out.only OE.out (fun ar hl ad had h => by obtain ⟨_, t, cs, hb, ht⟩ := hpk _ h; rcases ht with ht | ht <;> (subst ht; exact EF.out.ne hb (by decide) (by decide) ar hl ad had rfl)))
      have FW8 : Hid (FrG B w W8) := Lib.hid (FrG.new ((FrG.of_below W5.out).trans HF.out) (OE.out.mono (fun k hk => .inr (by omega))))
      refine leaves_cons (f := 56) (args := #[.pointer (some ⟨(gT + 1), 0, none⟩)]) (by simp) (by simp [go_sem]) ?_
      refine (stopg_c _ B w.heap.size (gT + 1) gT j Bf bs lb Z ls _ .returning I8).mono ?_
      rintro e u' w9 ⟨rfl, rfl, hb9⟩
      refine leaves_cons (f := 55) (args := #[.pointer (some ⟨(w.heap.size + 1), 0, none⟩), .pointer (some ⟨(w.heap.size + 1 + 1), 0, none⟩)]) (by simp [settle]) (by simp [go_sem]) ?_
      refine (guard_idle _ _ _).mono ?_
      rintro e u' w'' ⟨rfl, rfl, rfl⟩
      have hn9 : ∀ (g : Nat) (t : TypeId) (cs : Array Value), Blk W8 g t cs → t ≠ 126 → ¬ (w.heap.size ≤ g ∧ ∃ cs, Blk W8 g 126 cs) := fun g t cs hg hne ⟨_, cs2, h2⟩ => Blk.ne hg h2 hne rfl
      have hy9 := (YE.out.only hb9 (hn9 _ _ _ YE.out (by decide))).cell
      have hz9 := (ZE.out.only hb9 (hn9 _ _ _ ZE.out (by decide))).cell
      have hrn : RanG w B (runM Z ls (RS.first (newM k K j M) j) ps) (.returned (.tuple #[.agg #[.slice sS.A sS.n sS.c, .slice sK.A sK.n sK.c, .int .u64 rf.e, .int .u64 rf.f, .slice rf.L.A rf.L.n rf.L.c, .slice rf.P.A rf.P.n rf.P.c, .int .u64 rf.h, .int .u64 rf.t, .slice rf.K.A rf.K.n rf.K.c, .slice rf.X.A rf.X.n rf.X.c, .slice rf.S.A rf.S.n rf.S.c], .int .i64 0])) w'' :=
        ⟨rf, sS, sK, w.heap.size, rfl, S8.out.only hb9 (fun g hg => by obtain ⟨ds, hd⟩ := S8.out.blk hg; exact hn9 _ _ _ hd (by decide)), K8.out.only hb9 (fun g hg => by obtain ⟨ds, hd⟩ := K8.out.blk hg; exact hn9 _ _ _ hd (by decide)), E8.out.only hb9 (fun ar hl ad had => by
          rintro ⟨_, cs2, h2⟩
          exact E8.out.ne h2 (by decide) (by decide) ar hl ad had rfl), FrG.new FW8.out (hb9.mono (fun g hg => .inr hg.1))⟩
      have HRN := Lib.hid hrn
      clear hrn hb9 hn9
      simp [Leaves, settle, results, Try.results26, go_sem, hy9, hz9]
      exact HRN.out
end Go.Proofs.Ytffppdcpiieapaa.Drivec

namespace Go.Proofs.Ytffppdcpiieapaa.Arenac
open Go.RowKit Go.Proofs.Ytffppdcpiieapaa.Memc Go.Proofs.Ytffppdcpiieapaa.Procc Go.Proofs.Ytffppdcpiieapaa.Machc Go.Proofs.Ytffppdcpiieapaa.Drivec Go.Proofs.Ytffppdcpiieapaa.Wordc
set_option linter.unusedVariables false
set_option maxRecDepth 100000

def fgn (x : Int × Int) : Bool := !(x.1 == 4) && !(x.1 == 5)
theorem foreign_c (w : World) (kd vl : Int) : Calls Try.prog 35 #[.agg #[.int .i64 kd, .int .u32 vl]] w fun e w' => e = .returned (.bool (fgn (kd, vl))) ∧ Below w.heap.size w w' := by
  by_cases h4 : kd = 4
  · subst h4
    go_enter Try.func35, Try.ntmps35
    go_wp2
    go_ret
    exact ⟨rfl, (Below.refl _ _).alloc (Nat.le_refl _) _⟩
  · go_enter Try.func35, Try.ntmps35
    go_wp2
    all_goals first | (exfalso; exact h4 (by assumption)) | skip
    go_ret
    exact ⟨rfl, (Below.refl _ _).alloc (Nat.le_refl _) _⟩
def FoundO (w : World) (yes : Bool) (e : Ending) (w' : World) : Prop := (∃ n : Int, -1 ≤ n ∧ n ≤ 9223372036854775807 ∧ decide (0 ≤ n) = yes ∧ e = .returned (.int .i64 n)) ∧ Below w.heap.size w w'
set_option maxHeartbeats 2000000 in
theorem index_O (s : Sl) (w : World) (B : Nat) (l : List (Int × Int)) (h : RdO w B s l) (hB : B ≤ w.heap.size) :
    Calls Try.prog 63 #[.slice s.A s.n s.c, .func (.func 35) #[] #[]] w (FoundO w (l.any fgn)) := by
  have hn0 : s.n ≤ maxLen := Nat.le_trans h.2.1 h.2.2.1
  have hn1 : (s.n : Int) ≤ 9223372036854775807 := by unfold maxLen at hn0; omega
  have HH := Lib.hid h
  have HNB := Lib.hid hB
  clear h hn0 hB
  go_enter Try.func63, Try.ntmps63
  go_wp2_with fail
  go_loopw [8] (fun i wr => ∃ j : Nat, i = .int .i64 j ∧ j ≤ s.n ∧ (∀ m x, m < j → l[m]? = some x → fgn x = false) ∧ Below w.heap.size w wr) (fun i _ => s.n - (intOf i).toNat)
  case atStart => exact ⟨0, rfl, Nat.zero_le _, fun m x hm => absurd hm (Nat.not_lt_zero _), Below.refl _ _⟩
  case round =>
    obtain ⟨j, rfl, hj, hall, hbw⟩ := hrel
    have HA := Lib.hid hall
    have HW := Lib.hid hbw
    clear hall hbw
    by_cases hlt : j < s.n
    · obtain ⟨b, off, hA, hbz, hc⟩ := HH.out.2.2.2 (by omega)
      obtain ⟨x, hx⟩ : ∃ x, l[j]? = some x := ⟨_, List.getElem?_eq_getElem (by have := HH.out.1; omega)⟩
      have hcc := hc j x hx
      have hold := fun o => HW.out.cell (p := ⟨b, o, none⟩) (Nat.lt_of_lt_of_le hbz HNB.out)
      have hc0 := (hold (off + j * 2)).trans hcc.1
      have hc1 := (hold (off + j * 2 + 1)).trans hcc.2
      have HX := Lib.hid hx
      have i0 : (0 : Int) ≤ j := by omega
      have i1 : (j : Int) < s.n := by omega
      obtain ⟨sA, sn, sc⟩ := s
      simp only at hA
      subst hA
      clear hc hx hcc hold
      obtain ⟨kd, vl⟩ := x
      simp only at hc0 hc1
      rcases hf : fgn (kd, vl) with _ | _
      · have HF := Lib.hid hf
        clear hf
        go_wp2_with (go_at_call 35; (with_reducible refine (foreign_c _ kd vl).mono ?_); rw [HF.out]; rintro e w' ⟨rfl, hb⟩; go_must (have HB2 := Lib.hid hb); clear hb)
        go_round
        case rel =>
          refine ⟨j + 1, by go_num, by omega, fun m y hm hy => ?_, HW.out.trans (HB2.out.mono HW.out.size)⟩
          by_cases hmj : m = j
          · subst hmj
            rw [HX.out] at hy
            injection hy with hy
            rw [← hy]
            exact HF.out
          · exact HA.out m y (by omega) hy
        case measure => simp [intOf]; omega
      · have HF := Lib.hid hf
        clear hf
        go_wp2_with (go_at_call 35; (with_reducible refine (foreign_c _ kd vl).mono ?_); rw [HF.out]; rintro e w' ⟨rfl, hb⟩; go_must (have HB2 := Lib.hid hb); clear hb)
        go_ret
        refine ⟨⟨j, by omega, by omega, ?_, rfl⟩, HW.out.trans (HB2.out.mono HW.out.size)⟩
        have hyt : l.any fgn = true := List.any_eq_true.2 ⟨_, List.mem_of_getElem? HX.out, HF.out⟩
        rw [hyt]
        simp
    · obtain rfl : j = s.n := by omega
      go_wp2
      go_ret
      refine ⟨⟨-1, by omega, by omega, ?_, rfl⟩, HW.out⟩
      have hyf : l.any fgn = false := by
        rw [List.any_eq_false]
        intro x hx
        obtain ⟨m, hm, rfl⟩ := List.getElem_of_mem hx
        have := HA.out m _ (by have := HH.out.1; omega) (List.getElem?_eq_getElem hm)
        simpa using this
      rw [hyf]
      rfl
set_option maxHeartbeats 2000000 in
theorem contains_O (s : Sl) (w : World) (B : Nat) (l : List (Int × Int)) (h : RdO w B s l) (hB : B ≤ w.heap.size) :
    Calls Try.prog 34 #[.slice s.A s.n s.c, .func (.func 35) #[] #[]] w fun e w' => e = .returned (.bool (l.any fgn)) ∧ Below w.heap.size w w' := by
  have HC := Lib.hid (index_O s w B l h hB)
  clear h hB
  go_enter Try.func34, Try.ntmps34
  go_wp2_with (go_at_call 63; refine (HC.out).mono ?_; rintro e w' ⟨⟨n, hn1, hn2, hn3, rfl⟩, hb⟩; have HN3 := Lib.hid (And.intro hn3 hb); clear hn3 hb)
  go_ret
  have h3 := HN3.out.1
  rw [← h3]
  exact ⟨by simp, HN3.out.2⟩
end Go.Proofs.Ytffppdcpiieapaa.Arenac
