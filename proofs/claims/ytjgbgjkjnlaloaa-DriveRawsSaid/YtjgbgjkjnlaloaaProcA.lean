/- A machine of a call that is told as a whole: its parts, by contract. -/
import Derived.Test.YtjgbgjkjnlaloaaSteps
import Derived.Test.YtjgbgjkjnlaloaaNewB
import Derived.Deep.QuietTactic
import Derived.BigQuiet
import Derived.WalkLawsBesides
import Derived.Defers
import Derived.Recover
import Derived.RegionTactic
import Derived.ChangeAlike
import Derived.Outline
import Derived.Laws.EntriesVeiled
namespace Go.Proofs.Ytjgbgjkjnlaloaa.Memc
open Go.RowKit
set_option linter.unusedVariables false
set_option maxRecDepth 100000

/-- the world is as it was but for the blocks of P, and new ones -/
structure Only (P : Nat → Prop) (w w' : World) : Prop where
  os : w'.os = w.os
  tape : w'.tape = w.tape
  output : w'.output = w.output
  size : w.heap.size ≤ w'.heap.size
  block : ∀ k, k < w.heap.size → ¬ P k → w'.heap[k]? = w.heap[k]?
section
variable {P Q : Nat → Prop} {w w' w'' : World}
theorem Only.refl (P : Nat → Prop) (w : World) : Only P w w := ⟨rfl, rfl, rfl, Nat.le_refl _, fun _ _ _ => rfl⟩
theorem Only.trans (h : Only P w w') (k : Only P w' w'') : Only P w w'' :=
  ⟨k.os.trans h.os, k.tape.trans h.tape, k.output.trans h.output, Nat.le_trans h.size k.size, fun i hi hp => (k.block i (Nat.lt_of_lt_of_le hi h.size) hp).trans (h.block i hi hp)⟩
theorem Only.mono (h : Only P w w') (hq : ∀ k, P k → Q k) : Only Q w w' := ⟨h.os, h.tape, h.output, h.size, fun k hk hn => h.block k hk (fun hp => hn (hq k hp))⟩
/-- what is touched beside P is new -/
theorem Only.narrow (h : Only Q w w') (hq : ∀ k, k < w.heap.size → Q k → P k) : Only P w w' := ⟨h.os, h.tape, h.output, h.size, fun k hk hn => h.block k hk (fun hp => hn (hq k hk hp))⟩
theorem Only.next (h : Only P w w') (k : Only Q w' w'') (hq : ∀ k, k < w.heap.size → Q k → P k) : Only P w w'' :=
  ⟨k.os.trans h.os, k.tape.trans h.tape, k.output.trans h.output, Nat.le_trans h.size k.size, fun i hi hp => (k.block i (Nat.lt_of_lt_of_le hi h.size) (fun hk => hp (hq i hi hk))).trans (h.block i hi hp)⟩
theorem Only.alloc (h : Only P w w') (o : Obj) : Only P w (w'.alloc o) :=
  h.trans ⟨rfl, rfl, rfl, by simp, fun k hk _ => Below.heap_alloc _ _ _ hk⟩
theorem Only.drew (h : Only P w w') : Only P w w'.drew := ⟨h.os, h.tape, h.output, h.size, h.block⟩
theorem Only.drewN (h : Only P w w') (n : Nat) : Only P w (w'.drewN n) := ⟨h.os, h.tape, h.output, h.size, h.block⟩
theorem Only.set_ (h : Only P w w') (p : Addr) (hp : P p.block ∨ w.heap.size ≤ p.block) (v : Value) : Only P w (w'.setCell p v) :=
  ⟨h.os, h.tape, h.output, by simpa [World.setCell] using h.size, fun k hk hn => (Below.heap_setCell w' p v k (fun e => by
    rcases hp with hp | hp
    · exact hn (e ▸ hp)
    · omega)).trans (h.block k hk hn)⟩
theorem Only.below (h : Only P w w') {B : Nat} (hB : B ≤ w.heap.size) (hp : ∀ k, P k → B ≤ k) : Below B w w' :=
  ⟨h.os, h.tape, h.output, h.size, fun k hk => h.block k (by omega) (fun hpk => by have := hp k hpk; omega)⟩
theorem Only.of_below {B : Nat} (h : Below B w w') (hB : w.heap.size ≤ B) : Only P w w' := ⟨h.os, h.tape, h.output, h.size, fun k hk _ => h.block k (by omega)⟩
theorem Blk.only {g : Nat} {t : TypeId} {cs : Array Value} (h : Blk w g t cs) (ho : Only P w w') (hg : ¬ P g) : Blk w' g t cs := h.moved (ho.block g h.lt hg)
theorem Only.cell (h : Only P w w') {b o : Nat} (hb : b < w.heap.size) (hn : ¬ P b) : w'.cell? ⟨b, o, none⟩ = w.cell? ⟨b, o, none⟩ := World.cell?_of_block (w := w) (a := ⟨b, o, none⟩) (h.block b hb hn)
/-- blocks of two types are two -/
theorem Blk.ne {g k : Nat} {t u : TypeId} {cs ds : Array Value} (h : Blk w g t cs) (h' : Blk w k u ds) (hne : t ≠ u) : g ≠ k := by
  rintro rfl
  unfold Blk at h h'
  rw [h] at h'
  injection h' with h'
  injection h' with _ h'
  exact hne h'
end


section
variable {w : World} {g : Nat} {t : TypeId}
theorem blk1_set {d0 : Value} (h : Blk w g t #[d0]) (v0 : Value) : Blk (w.setCell ⟨g, 0, none⟩ v0) g t #[v0] := by
  have := h.set_ 0 v0
  simpa only [List.setIfInBounds_toArray, List.set_cons_zero, List.set_cons_succ] using this
theorem blk5_set {d0 d1 d2 d3 d4 : Value} (h : Blk w g t #[d0, d1, d2, d3, d4]) (v0 v1 v2 v3 v4 : Value) :
    Blk (((((w.setCell ⟨g, 0, none⟩ v0).setCell ⟨g, 1, none⟩ v1).setCell ⟨g, 2, none⟩ v2).setCell ⟨g, 3, none⟩ v3).setCell ⟨g, 4, none⟩ v4) g t #[v0, v1, v2, v3, v4] := by
  have := ((((h.set_ 0 v0).set_ 1 v1).set_ 2 v2).set_ 3 v3).set_ 4 v4
  simpa only [List.setIfInBounds_toArray, List.set_cons_zero, List.set_cons_succ] using this
theorem blk5_far {k : Nat} {cs : Array Value} (h : Blk w k t cs) (hne : k ≠ g) (v0 v1 v2 v3 v4 : Value) :
    Blk (((((w.setCell ⟨g, 0, none⟩ v0).setCell ⟨g, 1, none⟩ v1).setCell ⟨g, 2, none⟩ v2).setCell ⟨g, 3, none⟩ v3).setCell ⟨g, 4, none⟩ v4) k t cs :=
  ((((h.far (p := ⟨g, 0, none⟩) hne _).far (p := ⟨g, 1, none⟩) hne _).far (p := ⟨g, 2, none⟩) hne _).far (p := ⟨g, 3, none⟩) hne _).far (p := ⟨g, 4, none⟩) hne _
theorem Only.set5 {P : Nat → Prop} {w0 : World} (h : Only P w0 w) (hg : P g ∨ w0.heap.size ≤ g) (v0 v1 v2 v3 v4 : Value) :
    Only P w0 (((((w.setCell ⟨g, 0, none⟩ v0).setCell ⟨g, 1, none⟩ v1).setCell ⟨g, 2, none⟩ v2).setCell ⟨g, 3, none⟩ v3).setCell ⟨g, 4, none⟩ v4) :=
  ((((h.set_ ⟨g, 0, none⟩ hg _).set_ ⟨g, 1, none⟩ hg _).set_ ⟨g, 2, none⟩ hg _).set_ ⟨g, 3, none⟩ hg _).set_ ⟨g, 4, none⟩ hg _
theorem Blk.drewN {cs : Array Value} (h : Blk w g t cs) (n : Nat) : Blk (w.drewN n) g t cs := h.moved rfl
end
end Go.Proofs.Ytjgbgjkjnlaloaa.Memc
namespace Go.Proofs.Ytjgbgjkjnlaloaa.Procc
open Go.RowKit Go.Proofs.Ytjgbgjkjnlaloaa.Memc
set_option linter.unusedVariables false
set_option maxRecDepth 100000

/-- whether something was put, as a number -/
def num (b : Bool) : Int := if b = true then 1 else 0

/-- what asking for an access, that isn't done yet, comes to -/
def Asked (w : World) (gm gx : Nat) (a : Acc) (e : Ending) (w' : World) : Prop :=
  e = .panicked [{ v := .iface 206 (.agg #[]), recovered := false }] ∧ Blk w' gm 4 #[.bool true] ∧ Blk w' gx 27 #[.int .i64 a.d, .int .i64 a.ar, .int .i64 a.at_, .int .u64 a.old, .int .u64 a.new] ∧ Only (fun k => k = gm ∨ k = gx) w w'

set_option maxHeartbeats 1000000 in
theorem do_ask (w : World) (gn gp gm gx P : Nat) (run : Value) (A : Option Addr) (n c : Nat) (a : Acc) (ask ov : Bool) (cd ou : Int)
    (hn : Blk w gn 3 #[.int .i64 n]) (hp : Blk w gp 145 #[.pointer (some ⟨P, 0, none⟩)]) (hm : Blk w gm 4 #[.bool false]) (hx : Blk w gx 27 #[.int .i64 0, .int .i64 0, .int .i64 0, .int .u64 0, .int .u64 0])
    (hq : Blk w P 148 #[run, .slice A n c, .bool ask, .bool ov, .int .i64 cd, .int .u32 ou]) :
    Calls Try.prog 159 #[.agg #[.int .i64 a.d, .int .i64 a.ar, .int .i64 a.at_, .int .u64 a.old, .int .u64 a.new], .pointer (some ⟨gn, 0, none⟩), .pointer (some ⟨gp, 0, none⟩), .pointer (some ⟨gm, 0, none⟩), .pointer (some ⟨gx, 0, none⟩)] w (Asked w gm gx a) := by
  have hmx : ¬ gm = gx := Blk.ne hm hx (by decide)
  have hxm : ¬ gx = gm := fun e => hmx e.symm
  have hcn := hn.cell
  have hfn := hn.frozen
  have hzn := hn.lt
  have hcp := hp.cell
  have hfp := hp.frozen
  have hzp := hp.lt
  have hcm := hm.cell
  have hfm := hm.frozen
  have hzm := hm.lt
  have hcx := hx.cell
  have hfx := hx.frozen
  have hzx := hx.lt
  have hcq := hq.cell
  have hfq := hq.frozen
  have hzq := hq.lt
  have HN := Lib.hid hn
  have HP := Lib.hid hp
  have HM := Lib.hid hm
  have HX := Lib.hid hx
  have HQ := Lib.hid hq
  clear hn hp hm hx hq
  go_enter Try.func159, Try.ntmps159
  go_wp2
  go_quiet (fail)
  go_wp2
  refine ⟨rfl, rfl, blk1_set ((blk5_far (((HM.out.alloc _).drewN _)) hmx _ _ _ _ _)) _, ((blk5_set ((HX.out.alloc _).drewN _) _ _ _ _ _).far hxm _), ?_⟩
  exact Only.set_ ((((Only.refl _ _).alloc _).drewN _).set5 (.inl (.inr rfl)) _ _ _ _ _) ⟨gm, 0, none⟩ (.inl (.inl rfl)) _

/-- what asking for an access that was done already comes to -/
def Told (w : World) (gn k : Nat) (was : Int) (dn : Bool) (e : Ending) (w' : World) : Prop :=
  e = .returned (.tuple #[.int .u64 was, .bool dn]) ∧ Blk w' gn 3 #[.int .i64 ((k : Int) + 1)] ∧ Only (fun g => g = gn) w w'

set_option maxHeartbeats 1000000 in
theorem do_tell (w : World) (gn gp gm gx P : Nat) (run : Value) (fb fo n c k : Nat) (a : Acc) (ask ov m : Bool) (cd ou was : Int) (dn : Bool)
    (hn : Blk w gn 3 #[.int .i64 k]) (hp : Blk w gp 145 #[.pointer (some ⟨P, 0, none⟩)])
    (hq : Blk w P 148 #[run, .slice (some ⟨fb, fo, none⟩) n c, .bool ask, .bool ov, .int .i64 cd, .int .u32 ou])
    (hk : k < n) (hl : n ≤ maxLen) (h1 : w.cell? ⟨fb, fo + k * 2, none⟩ = some (.int .u64 was)) (h2 : w.cell? ⟨fb, fo + k * 2 + 1, none⟩ = some (.bool dn)) (hnf : ¬ fb = gn) :
    Calls Try.prog 159 #[.agg #[.int .i64 a.d, .int .i64 a.ar, .int .i64 a.at_, .int .u64 a.old, .int .u64 a.new], .pointer (some ⟨gn, 0, none⟩), .pointer (some ⟨gp, 0, none⟩), .pointer (some ⟨gm, 0, none⟩), .pointer (some ⟨gx, 0, none⟩)] w (Told w gn k was dn) := by
  have hne : ¬ (k : Int) = n := by omega
  have i0 : (0 : Int) ≤ k := by omega
  have i1 : (k : Int) < n := by omega
  have i2 : (n : Int) ≤ 9223372036854775807 := by unfold maxLen at hl; omega
  have hbf := World.block_lt_of_cell? _ _ h1
  clear hl hk
  have hcn := hn.cell
  have hfn := hn.frozen
  have hzn := hn.lt
  have hcp := hp.cell
  have hfp := hp.frozen
  have hzp := hp.lt
  have hcq := hq.cell
  have hfq := hq.frozen
  have hzq := hq.lt
  have HN := Lib.hid hn
  have HP := Lib.hid hp
  have HQ := Lib.hid hq
  clear hn hp hq
  go_enter Try.func159, Try.ntmps159
  go_wp2
  go_quiet (fail)
  go_wp2
  go_region
  all_goals
    go_wp2
    go_quiet (fail)
    go_wp2
    go_ret2
    exact ⟨rfl, ((((blk1_set ((HN.out.alloc _).drewN _) _).alloc _).drewN _)), Only.drewN (Only.alloc (Only.set_ (((Only.refl (fun g => g = gn) w).alloc _).drewN _) ⟨gn, 0, none⟩ (.inl rfl) _) _) _⟩

/-- what is left to be done when a call is gone through: a pause that asked for an access is caught -/
theorem catch_asked (gm gp : Nat) (u : TypeId) (pv : Value) (older : List PanicEntry) (w : World) (hm : Blk w gm 4 #[.bool true]) :
    CallsD Try.prog 158 #[.pointer (some ⟨gm, 0, none⟩), .pointer (some ⟨gp, 0, none⟩)] (.panicking ({ v := .iface u pv, recovered := false } :: older)) w fun e u' w' =>
      e = .returned (.tuple #[]) ∧ u' = .panicking ({ v := .iface u pv, recovered := true } :: older) ∧ w' = w := by
  have hc := hm.cell 0
  simp only [List.getElem?_toArray, List.getElem?_cons_zero] at hc
  refine callsD_of_wpS Try.func158 rfl fun c₀ cs hu => ?_
  apply wpS_seq
  apply wpS_region
  simp [wpOpsS, go_sem, recoverD, hu, Try.ntmps158, Exit.thenS, hc]
  refine wpS_cond (t := false) (by simp [Act.eval, Array.replicate]) ?_
  simp only [Bool.false_eq_true, if_false]
  refine wpS_of_wp (wp_skip ?_)
  cases c₀
  simp_all [bodyPostS, results, Try.results158]

theorem catch_idle (gm gp : Nat) (w : World) :
    CallsD Try.prog 158 #[.pointer (some ⟨gm, 0, none⟩), .pointer (some ⟨gp, 0, none⟩)] .returning w fun e u' w' => e = .returned (.tuple #[]) ∧ u' = .returning ∧ w' = w := by
  refine callsD_of_wpS Try.func158 rfl fun c₀ cs hu => ?_
  apply wpS_seq
  apply wpS_region
  simp [wpOpsS, go_sem, recoverD, hu, Try.ntmps158, Exit.thenS]
  refine wpS_cond (t := false) (by simp [Act.eval, Array.replicate]) ?_
  simp only [Bool.false_eq_true, if_false]
  refine wpS_of_wp (wp_skip ?_)
  cases c₀
  simp_all [bodyPostS, results, Try.results158]

set_option maxHeartbeats 1000000 in
theorem single_ask (w : World) (gn gp gm gx P ga : Nat) (run : Value) (A : Option Addr) (c : Nat) (a : Acc) (ask ov : Bool) (cd ou : Int)
    (hn : Blk w gn 3 #[.int .i64 0]) (hp : Blk w gp 145 #[.pointer (some ⟨P, 0, none⟩)]) (hm : Blk w gm 4 #[.bool false]) (hx : Blk w gx 27 #[.int .i64 0, .int .i64 0, .int .i64 0, .int .u64 0, .int .u64 0])
    (hq : Blk w P 148 #[run, .slice A 0 c, .bool ask, .bool ov, .int .i64 cd, .int .u32 ou]) (ha : Blk w ga 27 #[.int .i64 a.d, .int .i64 a.ar, .int .i64 a.at_, .int .u64 a.old, .int .u64 a.new]) :
    Calls Try.prog 86 #[.func (.func 159) #[] #[.pointer (some ⟨gn, 0, none⟩), .pointer (some ⟨gp, 0, none⟩), .pointer (some ⟨gm, 0, none⟩), .pointer (some ⟨gx, 0, none⟩)], .pointer (some ⟨ga, 0, none⟩)] w (Asked w gm gx a) := by
  have hca := ha.cell
  have hfa := ha.frozen
  have hza := ha.lt
  have HN := Lib.hid hn
  have HP := Lib.hid hp
  have HM := Lib.hid hm
  have HX := Lib.hid hx
  have HQ := Lib.hid hq
  have HA := Lib.hid ha
  clear hn hp hm hx hq ha
  go_enter Try.func86, Try.ntmps86
  go_wp2_with (go_at_call 159; (with_reducible refine (do_ask _ gn gp gm gx P run A 0 c a ask ov cd ou HN.out HP.out HM.out HX.out HQ.out).mono ?_); rintro e w1 ⟨rfl, h1⟩; have H1 := Lib.hid h1; clear h1)
  exact ⟨rfl, rfl, H1.out⟩

set_option maxHeartbeats 1000000 in
theorem single_tell (w : World) (gn gp gm gx P ga : Nat) (run : Value) (fb fo n c : Nat) (a : Acc) (ask ov m : Bool) (cd ou was : Int) (dn : Bool)
    (hn : Blk w gn 3 #[.int .i64 0]) (hp : Blk w gp 145 #[.pointer (some ⟨P, 0, none⟩)])
    (hq : Blk w P 148 #[run, .slice (some ⟨fb, fo, none⟩) n c, .bool ask, .bool ov, .int .i64 cd, .int .u32 ou]) (ha : Blk w ga 27 #[.int .i64 a.d, .int .i64 a.ar, .int .i64 a.at_, .int .u64 a.old, .int .u64 a.new])
    (hk : 0 < n) (hl : n ≤ maxLen) (h1 : w.cell? ⟨fb, fo, none⟩ = some (.int .u64 was)) (h2 : w.cell? ⟨fb, fo + 1, none⟩ = some (.bool dn)) (hnf : ¬ fb = gn) :
    Calls Try.prog 86 #[.func (.func 159) #[] #[.pointer (some ⟨gn, 0, none⟩), .pointer (some ⟨gp, 0, none⟩), .pointer (some ⟨gm, 0, none⟩), .pointer (some ⟨gx, 0, none⟩)], .pointer (some ⟨ga, 0, none⟩)] w fun e w' => e = .returned (.tuple #[.int .i64 0, .int .u32 (num dn)]) ∧ Only (fun g => g = gn) w w' := by
  have HT := Lib.hid (do_tell w gn gp gm gx P run fb fo n c 0 a ask ov m cd ou was dn hn hp hq hk hl (by simpa using h1) (by simpa using h2) hnf)
  have hca := ha.cell
  have hfa := ha.frozen
  have hza := ha.lt
  have HN := Lib.hid hn
  have HP := Lib.hid hp
  have HQ := Lib.hid hq
  have HA := Lib.hid ha
  clear hn hp hq ha
  clear h1 h2 hk hl
  cases dn
  all_goals
    go_enter Try.func86, Try.ntmps86
    go_wp2_with (go_at_call 159; (with_reducible refine (HT.out).mono ?_); rintro e w1 ⟨rfl, h1, h2⟩; have H2 := Lib.hid h2; clear h1 h2)
    go_ret2
    exact ⟨rfl, H2.out⟩

/-- a call is gone through, up to its first access -/
def Thru (w : World) (P : Nat) (run : Value) (A : Option Addr) (n c : Nat) (ask ov : Bool) (cd ou cd' ou' : Int) (v : Array Value) (m : Bool) (e : Ending) (w' : World) : Prop :=
  e = .returned (.tuple #[.agg v, .bool m]) ∧ Blk w' P 148 #[run, .slice A n c, .bool ask, .bool ov, .int .i64 cd', .int .u32 ou'] ∧ Only (fun g => g = P) w w'

set_option maxHeartbeats 2000000 in
theorem through_ask (w : World) (P ga : Nat) (A : Option Addr) (c : Nat) (a : Acc) (ask ov : Bool) (cd ou : Int)
    (hq : Blk w P 148 #[.func (.func 86) #[] #[.pointer (some ⟨ga, 0, none⟩)], .slice A 0 c, .bool ask, .bool ov, .int .i64 cd, .int .u32 ou]) (ha : Blk w ga 27 #[.int .i64 a.d, .int .i64 a.ar, .int .i64 a.at_, .int .u64 a.old, .int .u64 a.new]) :
    Calls Try.prog 156 #[.pointer (some ⟨P, 0, none⟩)] w (Thru w P (.func (.func 86) #[] #[.pointer (some ⟨ga, 0, none⟩)]) A 0 c ask ov cd ou cd ou #[.int .i64 a.d, .int .i64 a.ar, .int .i64 a.at_, .int .u64 a.old, .int .u64 a.new] true) := by
  have hmf : ∀ (fn : Fn) (first cap : Array Value) (w : World), (Instr.makeFunc fn first cap).run Try.prog w = .ok (.func fn first cap) w := fun _ _ _ _ => rfl
  have hcq := hq.cell
  have hfq := hq.frozen
  have hzq := hq.lt
  have HQ := Lib.hid hq
  have HA := Lib.hid ha
  clear hq ha
  have hq1 : P < w.heap.size + 1 := by omega
  have hq2 : P < w.heap.size + 1 + 1 := by omega
  have hq3 : P < w.heap.size + 1 + 1 + 1 := by omega
  go_enter_defers Try.func156, Try.ntmps156
  go_wp2_with fail
  have BP : Hid (Blk ((((w.alloc (.cells #[.pointer (some ⟨P, 0, none⟩)] 145)).alloc (.cells #[.int .i64 0, .int .i64 0, .int .i64 0, .int .u64 0, .int .u64 0] 27)).alloc (.cells #[.bool false] 4)).alloc (.cells #[.int .i64 0] 3)) w.heap.size 145 #[.pointer (some ⟨P, 0, none⟩)]) := Lib.hid ((((Blk.new _ _ _).alloc _).alloc _).alloc _)
  have BX : Hid (Blk ((((w.alloc (.cells #[.pointer (some ⟨P, 0, none⟩)] 145)).alloc (.cells #[.int .i64 0, .int .i64 0, .int .i64 0, .int .u64 0, .int .u64 0] 27)).alloc (.cells #[.bool false] 4)).alloc (.cells #[.int .i64 0] 3)) (w.heap.size + 1) 27 #[.int .i64 0, .int .i64 0, .int .i64 0, .int .u64 0, .int .u64 0]) := Lib.hid (((blk_at (by simp)).alloc _).alloc _)
  have BM : Hid (Blk ((((w.alloc (.cells #[.pointer (some ⟨P, 0, none⟩)] 145)).alloc (.cells #[.int .i64 0, .int .i64 0, .int .i64 0, .int .u64 0, .int .u64 0] 27)).alloc (.cells #[.bool false] 4)).alloc (.cells #[.int .i64 0] 3)) (w.heap.size + 1 + 1) 4 #[.bool false]) := Lib.hid ((blk_at (by simp)).alloc _)
  have BN : Hid (Blk ((((w.alloc (.cells #[.pointer (some ⟨P, 0, none⟩)] 145)).alloc (.cells #[.int .i64 0, .int .i64 0, .int .i64 0, .int .u64 0, .int .u64 0] 27)).alloc (.cells #[.bool false] 4)).alloc (.cells #[.int .i64 0] 3)) (w.heap.size + 1 + 1 + 1) 3 #[.int .i64 0]) := Lib.hid (blk_at (by simp))
  have BQ := Lib.hid ((((HQ.out.alloc (.cells #[.pointer (some ⟨P, 0, none⟩)] 145)).alloc (.cells #[.int .i64 0, .int .i64 0, .int .i64 0, .int .u64 0, .int .u64 0] 27)).alloc (.cells #[.bool false] 4)).alloc (.cells #[.int .i64 0] 3))
  have BA := Lib.hid ((((HA.out.alloc (.cells #[.pointer (some ⟨P, 0, none⟩)] 145)).alloc (.cells #[.int .i64 0, .int .i64 0, .int .i64 0, .int .u64 0, .int .u64 0] 27)).alloc (.cells #[.bool false] 4)).alloc (.cells #[.int .i64 0] 3))
  have OV : Hid (Only (fun g => g = P) w ((((w.alloc (.cells #[.pointer (some ⟨P, 0, none⟩)] 145)).alloc (.cells #[.int .i64 0, .int .i64 0, .int .i64 0, .int .u64 0, .int .u64 0] 27)).alloc (.cells #[.bool false] 4)).alloc (.cells #[.int .i64 0] 3))) := Lib.hid (((((Only.refl _ _).alloc _).alloc _).alloc _).alloc _)
  generalize ((((w.alloc (.cells #[.pointer (some ⟨P, 0, none⟩)] 145)).alloc (.cells #[.int .i64 0, .int .i64 0, .int .i64 0, .int .u64 0, .int .u64 0] 27)).alloc (.cells #[.bool false] 4)).alloc (.cells #[.int .i64 0] 3)) = V at BP BX BM BN BQ BA OV ⊢
  refine (single_ask _ _ _ _ _ P ga _ A c a ask ov cd ou BN.out BP.out BM.out BX.out BQ.out BA.out).mono ?_
  rintro e w1 ⟨rfl, hm1, hx1, ho1⟩
  have M1 := Lib.hid hm1
  have X1 := Lib.hid hx1
  have O1 := Lib.hid ho1
  clear hm1 hx1 ho1
  go_wp2
  refine leaves_cons (f := 158) (args := #[.pointer (some ⟨w.heap.size + 1 + 1, 0, none⟩), .pointer (some ⟨w.heap.size, 0, none⟩)]) (by simp) (by simp [go_sem]) ?_
  refine (catch_asked _ _ _ _ [] _ M1.out).mono ?_
  rintro e u' w'' ⟨rfl, rfl, rfl⟩
  have hcm := M1.out.cell
  have hcx := X1.out.cell
  have hth : Thru w P (.func (.func 86) #[] #[.pointer (some ⟨ga, 0, none⟩)]) A 0 c ask ov cd ou cd ou #[.int .i64 a.d, .int .i64 a.ar, .int .i64 a.at_, .int .u64 a.old, .int .u64 a.new] true (.returned (.tuple #[.agg #[.int .i64 a.d, .int .i64 a.ar, .int .i64 a.at_, .int .u64 a.old, .int .u64 a.new], .bool true])) w'' :=
    ⟨rfl, BQ.out.only O1.out (by omega), OV.out.next O1.out (fun k hk hg => by omega)⟩
  have HTH := Lib.hid hth
  clear hth
  simp [Leaves, settle, results, Try.results156, go_sem, hcm, hcx]
  exact HTH.out

set_option maxHeartbeats 4000000 in
theorem through_tell (w : World) (P ga fb fo c : Nat) (a : Acc) (ask ov : Bool) (cd ou was : Int) (dn : Bool)
    (hq : Blk w P 148 #[.func (.func 86) #[] #[.pointer (some ⟨ga, 0, none⟩)], .slice (some ⟨fb, fo, none⟩) 1 c, .bool ask, .bool ov, .int .i64 cd, .int .u32 ou]) (ha : Blk w ga 27 #[.int .i64 a.d, .int .i64 a.ar, .int .i64 a.at_, .int .u64 a.old, .int .u64 a.new])
    (h1 : w.cell? ⟨fb, fo, none⟩ = some (.int .u64 was)) (h2 : w.cell? ⟨fb, fo + 1, none⟩ = some (.bool dn)) :
    Calls Try.prog 156 #[.pointer (some ⟨P, 0, none⟩)] w (Thru w P (.func (.func 86) #[] #[.pointer (some ⟨ga, 0, none⟩)]) (some ⟨fb, fo, none⟩) 1 c ask ov cd ou 0 (num dn) #[.int .i64 0, .int .i64 0, .int .i64 0, .int .u64 0, .int .u64 0] false) := by
  have hmf : ∀ (fn : Fn) (first cap : Array Value) (w : World), (Instr.makeFunc fn first cap).run Try.prog w = .ok (.func fn first cap) w := fun _ _ _ _ => rfl
  have hzf := World.block_lt_of_cell? _ _ h1
  have C1 := Lib.hid h1
  have C2 := Lib.hid h2
  clear h1 h2
  have hcq := hq.cell
  have hfq := hq.frozen
  have hzq := hq.lt
  have HQ := Lib.hid hq
  have HA := Lib.hid ha
  clear hq ha
  have hq1 : P < w.heap.size + 1 := by omega
  have hq2 : P < w.heap.size + 1 + 1 := by omega
  have hq3 : P < w.heap.size + 1 + 1 + 1 := by omega
  have cc : ∀ o, Hid ((((((w.alloc (.cells #[.pointer (some ⟨P, 0, none⟩)] 145)).alloc (.cells #[.int .i64 0, .int .i64 0, .int .i64 0, .int .u64 0, .int .u64 0] 27)).alloc (.cells #[.bool false] 4)).alloc (.cells #[.int .i64 0] 3))).cell? ⟨fb, o, none⟩ = w.cell? ⟨fb, o, none⟩) := fun o => Lib.hid (((((Below.refl w.heap.size w).alloc (Nat.le_refl _) _).alloc (by simp) _).alloc (by simp; omega) _).alloc (by simp; omega) _ |>.cell (p := ⟨fb, o, none⟩) hzf)
  go_enter_defers Try.func156, Try.ntmps156
  go_wp2_with fail
  have BP : Hid (Blk ((((w.alloc (.cells #[.pointer (some ⟨P, 0, none⟩)] 145)).alloc (.cells #[.int .i64 0, .int .i64 0, .int .i64 0, .int .u64 0, .int .u64 0] 27)).alloc (.cells #[.bool false] 4)).alloc (.cells #[.int .i64 0] 3)) w.heap.size 145 #[.pointer (some ⟨P, 0, none⟩)]) := Lib.hid ((((Blk.new _ _ _).alloc _).alloc _).alloc _)
  have BX : Hid (Blk ((((w.alloc (.cells #[.pointer (some ⟨P, 0, none⟩)] 145)).alloc (.cells #[.int .i64 0, .int .i64 0, .int .i64 0, .int .u64 0, .int .u64 0] 27)).alloc (.cells #[.bool false] 4)).alloc (.cells #[.int .i64 0] 3)) (w.heap.size + 1) 27 #[.int .i64 0, .int .i64 0, .int .i64 0, .int .u64 0, .int .u64 0]) := Lib.hid (((blk_at (by simp)).alloc _).alloc _)
  have BM : Hid (Blk ((((w.alloc (.cells #[.pointer (some ⟨P, 0, none⟩)] 145)).alloc (.cells #[.int .i64 0, .int .i64 0, .int .i64 0, .int .u64 0, .int .u64 0] 27)).alloc (.cells #[.bool false] 4)).alloc (.cells #[.int .i64 0] 3)) (w.heap.size + 1 + 1) 4 #[.bool false]) := Lib.hid ((blk_at (by simp)).alloc _)
  have BN : Hid (Blk ((((w.alloc (.cells #[.pointer (some ⟨P, 0, none⟩)] 145)).alloc (.cells #[.int .i64 0, .int .i64 0, .int .i64 0, .int .u64 0, .int .u64 0] 27)).alloc (.cells #[.bool false] 4)).alloc (.cells #[.int .i64 0] 3)) (w.heap.size + 1 + 1 + 1) 3 #[.int .i64 0]) := Lib.hid (blk_at (by simp))
  have BQ := Lib.hid ((((HQ.out.alloc (.cells #[.pointer (some ⟨P, 0, none⟩)] 145)).alloc (.cells #[.int .i64 0, .int .i64 0, .int .i64 0, .int .u64 0, .int .u64 0] 27)).alloc (.cells #[.bool false] 4)).alloc (.cells #[.int .i64 0] 3))
  have BA := Lib.hid ((((HA.out.alloc (.cells #[.pointer (some ⟨P, 0, none⟩)] 145)).alloc (.cells #[.int .i64 0, .int .i64 0, .int .i64 0, .int .u64 0, .int .u64 0] 27)).alloc (.cells #[.bool false] 4)).alloc (.cells #[.int .i64 0] 3))
  have OV : Hid (Only (fun g => g = P) w ((((w.alloc (.cells #[.pointer (some ⟨P, 0, none⟩)] 145)).alloc (.cells #[.int .i64 0, .int .i64 0, .int .i64 0, .int .u64 0, .int .u64 0] 27)).alloc (.cells #[.bool false] 4)).alloc (.cells #[.int .i64 0] 3))) := Lib.hid (((((Only.refl _ _).alloc _).alloc _).alloc _).alloc _)
  generalize ((((w.alloc (.cells #[.pointer (some ⟨P, 0, none⟩)] 145)).alloc (.cells #[.int .i64 0, .int .i64 0, .int .i64 0, .int .u64 0, .int .u64 0] 27)).alloc (.cells #[.bool false] 4)).alloc (.cells #[.int .i64 0] 3)) = V at BP BX BM BN BQ BA OV cc ⊢
  refine (single_tell _ _ _ _ _ P ga _ fb fo 1 c a ask ov false cd ou was dn BN.out BP.out BQ.out BA.out (by omega) (by decide) ((cc fo).out.trans C1.out) ((cc (fo + 1)).out.trans C2.out) (by have hz : fb < w.heap.size := hzf; omega)).mono ?_
  rintro e w1 ⟨rfl, ho1⟩
  have O1 := Lib.hid ho1
  have Q1 := Lib.hid (BQ.out.only ho1 (by omega))
  have X1 := Lib.hid (BX.out.only ho1 (by omega))
  have M1 := Lib.hid (BM.out.only ho1 (by omega))
  have P1 := Lib.hid (BP.out.only ho1 (by omega))
  have hxq := Q1.out.cell
  have hxqf := Q1.out.frozen
  have hxx := X1.out.cell
  have hxxf := X1.out.frozen
  have hxm := M1.out.cell
  have hxmf := M1.out.frozen
  have hxp := P1.out.cell
  have n1 : ¬ P = w.heap.size := by omega
  have n2 : ¬ P = w.heap.size + 1 := by omega
  have n3 : ¬ P = w.heap.size + 1 + 1 := by omega
  clear ho1 cc hcq hfq
  go_wp2
  go_region
  all_goals
    go_wp2
    go_region
    all_goals
      go_wp2
      have MM : Hid (Blk ((((((((((w1.setCell ⟨P, 4, none⟩ (.int .i64 0)).setCell ⟨P, 5, none⟩ (.int .u32 (num dn))).setCell ⟨(w.heap.size + 1), 0, none⟩ (.int .i64 0)).setCell ⟨(w.heap.size + 1), 1, none⟩ (.int .i64 0)).setCell ⟨(w.heap.size + 1), 2, none⟩ (.int .i64 0)).setCell ⟨(w.heap.size + 1), 3, none⟩ (.int .u64 0)).setCell ⟨(w.heap.size + 1), 4, none⟩ (.int .u64 0)).setCell ⟨(w.heap.size + 1 + 1), 0, none⟩ (.bool false)).drew).drew) (w.heap.size + 1 + 1) 4 #[.bool false]) := Lib.hid (by have h_ := ((((((((((M1.out).far (p := ⟨P, 4, none⟩) (show ¬ (w.heap.size + 1 + 1) = P by omega) (.int .i64 0)).far (p := ⟨P, 5, none⟩) (show ¬ (w.heap.size + 1 + 1) = P by omega) (.int .u32 (num dn))).far (p := ⟨(w.heap.size + 1), 0, none⟩) (show ¬ (w.heap.size + 1 + 1) = (w.heap.size + 1) by omega) (.int .i64 0)).far (p := ⟨(w.heap.size + 1), 1, none⟩) (show ¬ (w.heap.size + 1 + 1) = (w.heap.size + 1) by omega) (.int .i64 0)).far (p := ⟨(w.heap.size + 1), 2, none⟩) (show ¬ (w.heap.size + 1 + 1) = (w.heap.size + 1) by omega) (.int .i64 0)).far (p := ⟨(w.heap.size + 1), 3, none⟩) (show ¬ (w.heap.size + 1 + 1) = (w.heap.size + 1) by omega) (.int .u64 0)).far (p := ⟨(w.heap.size + 1), 4, none⟩) (show ¬ (w.heap.size + 1 + 1) = (w.heap.size + 1) by omega) (.int .u64 0)).set_ 0 (.bool false)).drew).drew; simpa only [List.setIfInBounds_toArray, List.set_cons_zero, List.set_cons_succ] using h_)
      have XX : Hid (Blk ((((((((((w1.setCell ⟨P, 4, none⟩ (.int .i64 0)).setCell ⟨P, 5, none⟩ (.int .u32 (num dn))).setCell ⟨(w.heap.size + 1), 0, none⟩ (.int .i64 0)).setCell ⟨(w.heap.size + 1), 1, none⟩ (.int .i64 0)).setCell ⟨(w.heap.size + 1), 2, none⟩ (.int .i64 0)).setCell ⟨(w.heap.size + 1), 3, none⟩ (.int .u64 0)).setCell ⟨(w.heap.size + 1), 4, none⟩ (.int .u64 0)).setCell ⟨(w.heap.size + 1 + 1), 0, none⟩ (.bool false)).drew).drew) (w.heap.size + 1) 27 #[.int .i64 0, .int .i64 0, .int .i64 0, .int .u64 0, .int .u64 0]) := Lib.hid (by have h_ := ((((((((((X1.out).far (p := ⟨P, 4, none⟩) (show ¬ (w.heap.size + 1) = P by omega) (.int .i64 0)).far (p := ⟨P, 5, none⟩) (show ¬ (w.heap.size + 1) = P by omega) (.int .u32 (num dn))).set_ 0 (.int .i64 0)).set_ 1 (.int .i64 0)).set_ 2 (.int .i64 0)).set_ 3 (.int .u64 0)).set_ 4 (.int .u64 0)).far (p := ⟨(w.heap.size + 1 + 1), 0, none⟩) (show ¬ (w.heap.size + 1) = (w.heap.size + 1 + 1) by omega) (.bool false)).drew).drew; simpa only [List.setIfInBounds_toArray, List.set_cons_zero, List.set_cons_succ] using h_)
      have QQ : Hid (Blk ((((((((((w1.setCell ⟨P, 4, none⟩ (.int .i64 0)).setCell ⟨P, 5, none⟩ (.int .u32 (num dn))).setCell ⟨(w.heap.size + 1), 0, none⟩ (.int .i64 0)).setCell ⟨(w.heap.size + 1), 1, none⟩ (.int .i64 0)).setCell ⟨(w.heap.size + 1), 2, none⟩ (.int .i64 0)).setCell ⟨(w.heap.size + 1), 3, none⟩ (.int .u64 0)).setCell ⟨(w.heap.size + 1), 4, none⟩ (.int .u64 0)).setCell ⟨(w.heap.size + 1 + 1), 0, none⟩ (.bool false)).drew).drew) P 148 #[.func (.func 86) #[] #[.pointer (some ⟨ga, 0, none⟩)], .slice (some ⟨fb, fo, none⟩) 1 c, .bool ask, .bool ov, .int .i64 0, .int .u32 (num dn)]) := Lib.hid (by have h_ := ((((((((((Q1.out).set_ 4 (.int .i64 0)).set_ 5 (.int .u32 (num dn))).far (p := ⟨(w.heap.size + 1), 0, none⟩) (show ¬ P = (w.heap.size + 1) by omega) (.int .i64 0)).far (p := ⟨(w.heap.size + 1), 1, none⟩) (show ¬ P = (w.heap.size + 1) by omega) (.int .i64 0)).far (p := ⟨(w.heap.size + 1), 2, none⟩) (show ¬ P = (w.heap.size + 1) by omega) (.int .i64 0)).far (p := ⟨(w.heap.size + 1), 3, none⟩) (show ¬ P = (w.heap.size + 1) by omega) (.int .u64 0)).far (p := ⟨(w.heap.size + 1), 4, none⟩) (show ¬ P = (w.heap.size + 1) by omega) (.int .u64 0)).far (p := ⟨(w.heap.size + 1 + 1), 0, none⟩) (show ¬ P = (w.heap.size + 1 + 1) by omega) (.bool false)).drew).drew; simpa only [List.setIfInBounds_toArray, List.set_cons_zero, List.set_cons_succ] using h_)
      have OO : Hid (Only (fun g => g = P) w ((((((((((w1.setCell ⟨P, 4, none⟩ (.int .i64 0)).setCell ⟨P, 5, none⟩ (.int .u32 (num dn))).setCell ⟨(w.heap.size + 1), 0, none⟩ (.int .i64 0)).setCell ⟨(w.heap.size + 1), 1, none⟩ (.int .i64 0)).setCell ⟨(w.heap.size + 1), 2, none⟩ (.int .i64 0)).setCell ⟨(w.heap.size + 1), 3, none⟩ (.int .u64 0)).setCell ⟨(w.heap.size + 1), 4, none⟩ (.int .u64 0)).setCell ⟨(w.heap.size + 1 + 1), 0, none⟩ (.bool false)).drew).drew)) := Lib.hid ((((((((((((OV.out.next O1.out (fun k hk hg => by omega))).set_ ⟨P, 4, none⟩ (.inl rfl) _).set_ ⟨P, 5, none⟩ (.inl rfl) _).set_ ⟨(w.heap.size + 1), 0, none⟩ (.inr (by simp)) _).set_ ⟨(w.heap.size + 1), 1, none⟩ (.inr (by simp)) _).set_ ⟨(w.heap.size + 1), 2, none⟩ (.inr (by simp)) _).set_ ⟨(w.heap.size + 1), 3, none⟩ (.inr (by simp)) _).set_ ⟨(w.heap.size + 1), 4, none⟩ (.inr (by simp)) _).set_ ⟨(w.heap.size + 1 + 1), 0, none⟩ (.inr (by simp; omega)) _).drew).drew)
      generalize ((((((((((w1.setCell ⟨P, 4, none⟩ (.int .i64 0)).setCell ⟨P, 5, none⟩ (.int .u32 (num dn))).setCell ⟨(w.heap.size + 1), 0, none⟩ (.int .i64 0)).setCell ⟨(w.heap.size + 1), 1, none⟩ (.int .i64 0)).setCell ⟨(w.heap.size + 1), 2, none⟩ (.int .i64 0)).setCell ⟨(w.heap.size + 1), 3, none⟩ (.int .u64 0)).setCell ⟨(w.heap.size + 1), 4, none⟩ (.int .u64 0)).setCell ⟨(w.heap.size + 1 + 1), 0, none⟩ (.bool false)).drew).drew) = W5 at MM XX QQ OO ⊢
      refine leaves_cons (f := 158) (args := #[.pointer (some ⟨(w.heap.size + 1 + 1), 0, none⟩), .pointer (some ⟨w.heap.size, 0, none⟩)]) (by simp) (by simp [go_sem]) ?_
      refine (catch_idle _ _ _).mono ?_
      rintro e u' w'' ⟨rfl, rfl, rfl⟩
      have hcm := MM.out.cell
      have hcx := XX.out.cell
      have hth : Thru w P (.func (.func 86) #[] #[.pointer (some ⟨ga, 0, none⟩)]) (some ⟨fb, fo, none⟩) 1 c ask ov cd ou 0 (num dn) #[.int .i64 0, .int .i64 0, .int .i64 0, .int .u64 0, .int .u64 0] false (.returned (.tuple #[.agg #[.int .i64 0, .int .i64 0, .int .i64 0, .int .u64 0, .int .u64 0], .bool false])) w'' := ⟨rfl, QQ.out, OO.out⟩
      have HTH := Lib.hid hth
      clear hth
      simp [Leaves, settle, results, Try.results156, go_sem, hcm, hcx]
      exact HTH.out

end Go.Proofs.Ytjgbgjkjnlaloaa.Procc
