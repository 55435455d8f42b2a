/- A step of a thread, by the document's answer: its contract. · A run of accesses: as mathematics, as it is held in memory, and a turn of it. · A turn of a run of accesses, by contract. · A run of any calls, as the program holds it. · The machines that are on are stopped (none is); a run's panic would be caught (there is none). · Whether a run may be, by contract. · A run of accesses, by contract. · A run of accesses of threads: Raw, by contract. · Lists of accesses, lists of such lists, and picks: how they are read in memory when they are handed over. · What a run's steps and calls are, as mathematics: its steps are replayed to its words, each is of a thread that was picked, a call is the one step. · What the first picks of a run come to is the beginning of what all come to, as mathematics and in memory. · The small functions of the document's machines, by contract. · A run by the document's answer as it is made: its threads are laid one by one. · A run by the document's answer begins: by contract. · The document's run of accesses, as mathematics: it goes as the program's. · What a call of one access asks for, by the document's answer. · What a call of one access is behind it, by the document's answer. · May a run be, by the document's answer: by contract. · A run of accesses by the document's answer that may not be. -/
import Derived.Deep.DeepCutAuto
import Derived.StillTailTactics
import Derived.Deep.RegionHeld3
import Derived.LoopTactic
import Derived.WalkKit
import Derived.Test.YtffppdcpiieapaaQ2
import Derived.Test.YtffppdcpiieapaaQ4
import Derived.Test.YtffppdcpiieapaaQ5
import Derived.Test.YtffppdcpiieapaaQ6
import Derived.Test.YtffppdcpiieapaaQ7
namespace Go.Proofs.Ytffppdcpiieapaa.Machc
open Go.RowKit Go.Proofs.Ytffppdcpiieapaa.Memc Go.Proofs.Ytffppdcpiieapaa.Refc
set_option linter.unusedVariables false
set_option maxRecDepth 100000

theorem goR_yes {ask : FS → Acc} {tell : FS → Int → Bool → FS} {s : RS} {t k : Nat} {f : FS} {x : Ck} (hf : s.on[t]? = some f) (hk : s.call[t]? = some (k : Int)) (hx : s.calls[k]? = some x) (hp : (tell f (acc s.m (ask f)).2.1 (acc s.m (ask f)).2.2).pc = 0) :
    goR ask tell s t = ⟨(acc s.m (ask f)).1, s.on.set t (tell f (acc s.m (ask f)).2.1 (acc s.m (ask f)).2.2), s.call.set t (-1), s.at_, s.steps ++ [⟨t, ask f, (acc s.m (ask f)).2.1, (acc s.m (ask f)).2.2⟩], s.calls.set k (endK x s.steps.length (tell f (acc s.m (ask f)).2.1 (acc s.m (ask f)).2.2))⟩ := by
  have e1 : s.on.getD t FS.none = f := by rw [List.getD_eq_getElem?_getD, hf]; rfl
  have e2 : s.call.getD t 0 = (k : Int) := by rw [List.getD_eq_getElem?_getD, hk]; rfl
  have e3 : s.calls.getD k ⟨0, 0, 0, 0, 0, 0, 0⟩ = x := by rw [List.getD_eq_getElem?_getD, hx]; rfl
  unfold goR
  simp only [e1, e2, Int.toNat_natCast, e3, hp, if_true]
theorem goR_no {ask : FS → Acc} {tell : FS → Int → Bool → FS} {s : RS} {t : Nat} {f : FS} (hf : s.on[t]? = some f) (hp : ¬ (tell f (acc s.m (ask f)).2.1 (acc s.m (ask f)).2.2).pc = 0) :
    goR ask tell s t = ⟨(acc s.m (ask f)).1, s.on.set t (tell f (acc s.m (ask f)).2.1 (acc s.m (ask f)).2.2), s.call, s.at_, s.steps ++ [⟨t, ask f, (acc s.m (ask f)).2.1, (acc s.m (ask f)).2.2⟩], s.calls⟩ := by
  have e1 : s.on.getD t FS.none = f := by rw [List.getD_eq_getElem?_getD, hf]; rfl
  unfold goR
  simp only [e1, hp, if_false]
end Go.Proofs.Ytffppdcpiieapaa.Machc

namespace Go.Proofs.Ytffppdcpiieapaa.Drivec
open Go.RowKit Go.Proofs.Ytffppdcpiieapaa.Memc Go.Proofs.Ytffppdcpiieapaa.Procc Go.Proofs.Ytffppdcpiieapaa.Storec
set_option linter.unusedVariables false
set_option maxRecDepth 100000

/-! ### as mathematics -/
/-- a call of one access that is over -/
structure Cl where
  th : Int
  fr : Nat
  out : Int
def Cl.cells (c : Cl) : List Value := [.int .i64 c.th, .int .i64 0, .int .u32 0, .int .i64 c.fr, .int .i64 c.fr, .int .i64 0, .int .u32 c.out]
/-- a run of accesses -/
structure D where
  m : Memc.M
  left : List (List Acc)
  steps : List St
  calls : List Cl
/-- what a pick picks -/
def turn (s : D) (t : Int) : D :=
  if 0 ≤ t then
    match s.left[t.toNat]? with
    | some (a :: l) => ⟨(acc s.m a).1, s.left.set t.toNat l, s.steps ++ [⟨t, a, (acc s.m a).2.1, (acc s.m a).2.2⟩], s.calls ++ [⟨t, s.steps.length, num (acc s.m a).2.2⟩]⟩
    | _ => s
  else s
def flatS (l : List St) : List Value := (l.map St.cells).flatten
def flatC (l : List Cl) : List Value := (l.map Cl.cells).flatten
/-! ### in memory -/
/-- the slice s reads as the accesses l, in memory below B -/
def RdA (w : World) (B : Nat) (s : Sl) (l : List Acc) : Prop :=
  s.n = l.length ∧ s.n ≤ s.c ∧ s.c ≤ maxLen ∧ (∀ x ∈ l, x.ok) ∧
  (0 < s.n → ∃ b off, s.A = some ⟨b, off, none⟩ ∧ b < B ∧ ∀ (i : Nat) (x : Acc), l[i]? = some x →
    w.cell? ⟨b, off + i * 5, none⟩ = some (.int .i64 x.d) ∧ w.cell? ⟨b, off + i * 5 + 1, none⟩ = some (.int .i64 x.ar) ∧ w.cell? ⟨b, off + i * 5 + 2, none⟩ = some (.int .i64 x.at_) ∧ w.cell? ⟨b, off + i * 5 + 3, none⟩ = some (.int .u64 x.old) ∧ w.cell? ⟨b, off + i * 5 + 4, none⟩ = some (.int .u64 x.new))
/-- the slice s has n calls, of no kind and no value -/
def OpsAt (w : World) (s : Sl) (n : Nat) : Prop :=
  s.n = n ∧ s.n ≤ s.c ∧ s.c ≤ maxLen ∧ (0 < n → ∃ (b off : Nat) (co : Array Value), s.A = some ⟨b, off, none⟩ ∧ Blk w b 63 co ∧ ∀ j, j < n → co[off + j * 2]? = some (.int .i64 0) ∧ co[off + j * 2 + 1]? = some (.int .u32 0))
/-- a thread's nine cells, no call being on -/
def Idle (ct : Array Value) (o : Nat) (s : Sl) : Prop :=
  ct[o]? = some (.slice s.A s.n s.c) ∧ ct[o + 1]? = some .nilIface ∧ (∃ c : Int, ct[o + 2]? = some (.int .i64 c)) ∧ ct[o + 3]? = some (.int .i64 0) ∧ ct[o + 4]? = some (.int .i64 0) ∧ ct[o + 5]? = some (.int .i64 0) ∧ ct[o + 6]? = some (.int .u64 0) ∧ ct[o + 7]? = some (.int .u64 0) ∧ ct[o + 8]? = some (.bool false)

/-- a run, as it is held: the blocks of the course and of the threads, and the variable of what is left -/
structure Inv (w : World) (B base gC gT gL gLL T : Nat) (s : D) : Prop where
  ex : ∃ (r : R) (sS sK : Sl) (ct cs : Array Value) (lc : Nat), (let th : Sl := ⟨some ⟨gT, 0, none⟩, T, T⟩; Blk w gC 102 #[.func (.func 27) #[] #[.pointer (some ⟨gL, 0, none⟩)], .slice th.A th.n th.c, .slice sS.A sS.n sS.c, .slice sK.A sK.n sK.c, .int .u64 r.e, .int .u64 r.f, .slice r.L.A r.L.n r.L.c, .slice r.P.A r.P.n r.P.c, .int .u64 r.h, .int .u64 r.t, .slice r.K.A r.K.n r.K.c, .slice r.X.A r.X.n r.X.c, .slice r.S.A r.S.n r.S.c]) ∧ Blk w gT 104 ct ∧ Endw w base r s.m ∧
    Row w base 59 8 sS s.steps.length (flatS s.steps) ∧ Row w base 55 7 sK s.calls.length (flatC s.calls) ∧
    Blk w gL 24 #[.slice (some ⟨gLL, 0, none⟩) T lc] ∧ Blk w gLL 27 cs ∧
    (∀ i, i < T → ∃ so : Sl, Idle ct (i * 9) so ∧ OpsAt w so (s.left.getD i []).length) ∧
    (∀ i, i < T → ∃ sa : Sl, cs[i]? = some (.slice sa.A sa.n sa.c) ∧ RdA w B sa (s.left.getD i []))
  len : s.left.length = T
  calls : s.calls.length = s.steps.length
  few : ∀ a, (s.m.area a).length ≤ 1000000
  low : B ≤ base ∧ base ≤ w.heap.size ∧ B ≤ gC ∧ B ≤ gT ∧ B ≤ gLL ∧ base ≤ gC ∧ base ≤ gT
/-- what a turn may touch: blocks of these types -/
def Tch (w : World) (B : Nat) (g : Nat) : Prop := B ≤ g ∧ ∃ t cs, Blk w g t cs ∧ (t = 102 ∨ t = 104 ∨ t = 59 ∨ t = 55 ∨ t = 27)

theorem idle_lt {ct : Array Value} {o : Nat} {s : Sl} (h : Idle ct o s) : o + 8 < ct.size := (Array.getElem?_eq_some_iff.1 h.2.2.2.2.2.2.2.2).1
end Go.Proofs.Ytffppdcpiieapaa.Drivec

namespace Go.Proofs.Ytffppdcpiieapaa.Drivec
open Go.RowKit Go.Proofs.Ytffppdcpiieapaa.Memc Go.Proofs.Ytffppdcpiieapaa.Procc Go.Proofs.Ytffppdcpiieapaa.Storec
set_option linter.unusedVariables false
set_option maxRecDepth 100000

/-- what a turn touches: nothing below B, and blocks of the run's own types -/
def Fr (B : Nat) (w w' : World) : Prop := Only (fun g => B ≤ g ∧ ∀ t cs, Blk w g t cs → t = 102 ∨ t = 104 ∨ t = 59 ∨ t = 55 ∨ t = 27) w w'
theorem below_box (w : World) (o : Obj) (n : Nat) : Below w.heap.size w ((w.alloc o).drewN n) := ⟨rfl, rfl, rfl, by simp [World.drewN], fun k hk => Below.heap_alloc w o k hk⟩
/-- what a turn comes to -/
def Turned (w : World) (B base gC gT gL gLL T : Nat) (s : D) (e : Ending) (w' : World) : Prop :=
  e = .returned (.tuple #[]) ∧ Inv w' B base gC gT gL gLL T s ∧ Fr B w w'

theorem getD_of {α : Type} {l : List (List α)} {i : Nat} {x : List α} (h : l[i]? = some x) : l.getD i [] = x := by rw [List.getD_eq_getElem?_getD, h]; rfl

end Go.Proofs.Ytffppdcpiieapaa.Drivec

namespace Go.Proofs.Ytffppdcpiieapaa.Drivec
open Go.RowKit Go.Proofs.Ytffppdcpiieapaa.Memc Go.Proofs.Ytffppdcpiieapaa.Procc Go.Proofs.Ytffppdcpiieapaa.Storec Go.Proofs.Ytffppdcpiieapaa.Refc Go.Proofs.Ytffppdcpiieapaa.Machc
set_option linter.unusedVariables false
set_option maxRecDepth 100000

/-- the slice s reads as the calls l (kind and value), in memory below B -/
def RdO (w : World) (B : Nat) (s : Sl) (l : List (Int × Int)) : Prop :=
  s.n = l.length ∧ s.n ≤ s.c ∧ s.c ≤ maxLen ∧ (0 < s.n → ∃ b off, s.A = some ⟨b, off, none⟩ ∧ b < B ∧ ∀ (i : Nat) (x : Int × Int), l[i]? = some x → w.cell? ⟨b, off + i * 2, none⟩ = some (.int .i64 x.1) ∧ w.cell? ⟨b, off + i * 2 + 1, none⟩ = some (.int .u32 x.2))
theorem RdO.below {w w' : World} {B : Nat} {s : Sl} {l : List (Int × Int)} (h : RdO w B s l) (hb : Below B w w') : RdO w' B s l :=
  ⟨h.1, h.2.1, h.2.2.1, fun hn => by
    obtain ⟨b, off, e, hlt, hc⟩ := h.2.2.2 hn
    exact ⟨b, off, e, hlt, fun i x hx => ⟨(hb.cell (p := ⟨b, _, none⟩) hlt).trans (hc i x hx).1, (hb.cell (p := ⟨b, _, none⟩) hlt).trans (hc i x hx).2⟩⟩⟩
theorem RdO.tail {w : World} {B b off n c : Nat} {x : Int × Int} {l : List (Int × Int)} (h : RdO w B ⟨some ⟨b, off, none⟩, n, c⟩ (x :: l)) : RdO w B ⟨tailO b off c, n - 1, c - 1⟩ l := by
  obtain ⟨h1, h2, h3, h4⟩ := h
  simp only [List.length_cons] at h1 h2 h3 h4
  refine ⟨by show n - 1 = _; omega, by show n - 1 ≤ c - 1; omega, by show c - 1 ≤ _; omega, fun hn => ?_⟩
  simp only at hn
  obtain ⟨b', off', e, hb, hc⟩ := h4 (by omega)
  injection e with e
  injection e with e1 e2
  subst e1
  subst e2
  refine ⟨b, off + 2, by show tailO b off c = _; unfold tailO; rw [if_neg (by omega)], hb, fun j y hj => ?_⟩
  have h6 := hc (j + 1) y (by simpa using hj)
  rw [show off + (j + 1) * 2 = off + 2 + j * 2 by omega] at h6
  exact h6
/-- machines: how a call begins, what it asks for, and what it is behind an access -/
structure Mac where
  bg : Int → Int → Int → Int → FS
  ask : FS → Acc
  tell : FS → Int → Bool → FS
def Mac.after (Z : Mac) (f : FS) (fs : List (Int × Bool)) : FS := fs.foldl (fun f x => Z.tell f x.1 x.2) f
def Mac.nx (Z : Mac) (f : FS) : Nx := if f.pc = 0 then .fin f.code f.out else .ask (Z.ask f)
def Mac.plan (Z : Mac) (f : FS) : Pl := fun fs => Z.nx (Z.after f fs)
theorem Mac.after_snoc (Z : Mac) (f : FS) (fs : List (Int × Bool)) (x : Int × Bool) : Z.after f (fs ++ [x]) = Z.tell (Z.after f fs) x.1 x.2 := by unfold Mac.after; rw [List.foldl_append]; rfl
theorem Mac.nx_ask {Z : Mac} {f : FS} (h : ¬ f.pc = 0) : Z.nx f = .ask (Z.ask f) := by unfold Mac.nx; rw [if_neg h]
theorem Mac.nx_fin {Z : Mac} {f : FS} (h : f.pc = 0) : Z.nx f = .fin f.code f.out := by unfold Mac.nx; rw [if_pos h]
/-- a thread's nine cells, a call being on -/
def Busy (ct : Array Value) (o : Nat) (s : Sl) (P k : Nat) (a : Acc) : Prop :=
  ct[o]? = some (.slice s.A s.n s.c) ∧ ct[o + 1]? = some (.iface 123 (.pointer (some ⟨P, 0, none⟩))) ∧ ct[o + 2]? = some (.int .i64 k) ∧ ct[o + 3]? = some (.int .i64 a.d) ∧ ct[o + 4]? = some (.int .i64 a.ar) ∧ ct[o + 5]? = some (.int .i64 a.at_) ∧ ct[o + 6]? = some (.int .u64 a.old) ∧ ct[o + 7]? = some (.int .u64 a.new) ∧ ct[o + 8]? = some (.bool true)
/-- a machine that is on, in state f -/
def On (w : World) (base : Nat) (Z : Mac) (P : Nat) (q : Sl) (f : FS) (n : Nat) : Prop :=
  ∃ (F : Nat) (cs : Array Value) (l : List Cap1) (f0 : FS) (fs : List (Int × Bool)), cs = (l.map Cap1.ptr).toArray ∧ Meets F l (Z.plan f0) ∧ SafeL l ∧ Kept w l ∧ Blk w P 126 #[.func (.func F) #[] cs, .slice q.A q.n q.c, .bool true, .bool false, .int .i64 0, .int .u32 0] ∧ Row w base 194 2 q fs.length (flatF fs) ∧ Going (Z.plan f0) fs ∧ f = Z.after f0 fs ∧ fs.length ≤ n ∧ base ≤ P
/-- nothing of these kinds is touched -/
def Spared (Pd : Nat → Prop) (w : World) : Prop := ∀ (g : Nat) (t : TypeId) (cs : Array Value), Blk w g t cs → (t ≠ 102 ∧ t ≠ 104 ∧ t ≠ 59 ∧ t ≠ 55 ∧ t ≠ 126 ∧ t ≠ 194) → ¬ Pd g
theorem On.only {w w' : World} {base : Nat} {Z : Mac} {P : Nat} {q : Sl} {f : FS} {n n' : Nat} {Pd : Nat → Prop} (h : On w base Z P q f n) (ho : Only Pd w w') (h1 : ¬ Pd P) (h2 : ∀ g, bl q g → ¬ Pd g) (h3 : Spared Pd w) (hn : n ≤ n') : On w' base Z P q f n' := by
  obtain ⟨F, cs, l, f0, fs, e1, e2, e3, e4, e5, e6, e7, e8, e9, e10⟩ := h
  exact ⟨F, cs, l, f0, fs, e1, e2, e3, fun x hx => (e4 x hx).only ho (h3 _ _ _ (e4 x hx) ⟨(e3 x hx).2.2.1, (e3 x hx).2.2.2.1, (e3 x hx).2.2.2.2.1, (e3 x hx).2.2.2.2.2.1, (e3 x hx).1, (e3 x hx).2.1⟩), e5.only ho h1, e6.only ho h2, e7, e8, Nat.le_trans e9 hn, e10⟩
def onB (s : RS) (i : Nat) : Prop := ∃ k : Nat, s.call[i]? = some (k : Int)
/-- a run, as the program holds it -/
structure InvG (w : World) (B base gC gT T Bf : Nat) (bs : Array Value) (lb : List Cap1) (Z : Mac) (ls : List (List (Int × Int))) (s : RS) : Prop where
  ex : ∃ (r : R) (sS sK : Sl) (ct : Array Value) (Ps : Nat → Nat) (qs : Nat → Sl), Blk w gC 102 #[.func (.func Bf) #[] bs, .slice (some ⟨gT, 0, none⟩) T T, .slice sS.A sS.n sS.c, .slice sK.A sK.n sK.c, .int .u64 r.e, .int .u64 r.f, .slice r.L.A r.L.n r.L.c, .slice r.P.A r.P.n r.P.c, .int .u64 r.h, .int .u64 r.t, .slice r.K.A r.K.n r.K.c, .slice r.X.A r.X.n r.X.c, .slice r.S.A r.S.n r.S.c] ∧ Blk w gT 104 ct ∧ Endw w base r s.m ∧
    Row w base 59 8 sS s.steps.length (flatT s.steps) ∧ Row w base 55 7 sK s.calls.length (flatK s.calls) ∧
    (∀ i, i < T → ∃ (n : Nat) (so : Sl) (l : List (Int × Int)), ls[i]? = some l ∧ s.at_[i]? = some (n : Int) ∧ n ≤ l.length ∧ RdO w B so (l.drop n) ∧
      ((s.call[i]? = some (-1) ∧ Idle ct (i * 9) so) ∨ ∃ (k : Nat) (f : FS), s.call[i]? = some (k : Int) ∧ k < s.calls.length ∧ s.on[i]? = some f ∧ ¬ f.pc = 0 ∧ Busy ct (i * 9) so (Ps i) k (Z.ask f) ∧ On w base Z (Ps i) (qs i) f s.steps.length)) ∧
    (∀ i j, i < T → j < T → i ≠ j → onB s i → onB s j → Ps i ≠ Ps j ∧ ∀ g, bl (qs i) g → ¬ bl (qs j) g)
  keep : bs = (lb.map Cap1.ptr).toArray ∧ Kept w lb ∧ SafeL lb
  len : s.on.length = T ∧ s.call.length = T ∧ s.at_.length = T
  few : ∀ a, (s.m.area a).length ≤ 1000000
  low : B ≤ base ∧ base ≤ w.heap.size ∧ base ≤ gC ∧ base ≤ gT
  cap : T ≤ 8
/-- what a turn touches: nothing below B, and blocks of the run's own types -/
def FrG (B : Nat) (w w' : World) : Prop := Only (fun g => B ≤ g ∧ ∀ t cs, Blk w g t cs → t = 102 ∨ t = 104 ∨ t = 59 ∨ t = 55 ∨ t = 126 ∨ t = 194) w w'
theorem FrG.of_below {B : Nat} {w w' : World} (h : Below w.heap.size w w') : FrG B w w' := Only.of_below h (Nat.le_refl _)
theorem FrG.trans {B : Nat} {w w' w'' : World} (h : FrG B w w') (k : FrG B w' w'') : FrG B w w'' :=
  ⟨k.os.trans h.os, k.tape.trans h.tape, k.output.trans h.output, Nat.le_trans h.size k.size, fun i hi hn => by
    have e := h.block i hi hn
    refine (k.block i (Nat.lt_of_lt_of_le hi h.size) (fun hk => hn ⟨hk.1, fun t cs hb => hk.2 t cs (hb.moved e)⟩)).trans e⟩
theorem FrG.blk {B g : Nat} {t : TypeId} {cs : Array Value} {w w' : World} (h : FrG B w w') (hb : Blk w g t cs) (ht : t ≠ 102 ∧ t ≠ 104 ∧ t ≠ 59 ∧ t ≠ 55 ∧ t ≠ 126 ∧ t ≠ 194) : Blk w' g t cs :=
  hb.only h fun hk => by
    rcases hk.2 t cs hb with e | e | e | e | e | e
    · exact ht.1 e
    · exact ht.2.1 e
    · exact ht.2.2.1 e
    · exact ht.2.2.2.1 e
    · exact ht.2.2.2.2.1 e
    · exact ht.2.2.2.2.2 e
theorem FrG.below {B : Nat} {w w' : World} (h : FrG B w w') (hB : B ≤ w.heap.size) : Below B w w' := Only.below h hB fun k hk => hk.1
theorem frg_mem {w : World} {B g : Nat} {u : TypeId} {ds : Array Value} (hb : Blk w g u ds) (hB : B ≤ g) (hu : u = 102 ∨ u = 104 ∨ u = 59 ∨ u = 55 ∨ u = 126 ∨ u = 194) :
    B ≤ g ∧ ∀ t cs, Blk w g t cs → t = 102 ∨ t = 104 ∨ t = 59 ∨ t = 55 ∨ t = 126 ∨ t = 194 := ⟨hB, fun t cs h => by
  have e : u = t := by
    unfold Blk at hb h
    rw [hb] at h
    injection h with h
    injection h with _ h
  rw [← e]; exact hu⟩
/-! ### cells of other threads -/
theorem askedc_ne {ct : Array Value} {o k : Nat} {a : Acc} (h : k < o ∨ o + 9 ≤ k) : (askedc ct o a)[k]? = ct[k]? := by
  unfold askedc
  repeat rw [Array.getElem?_setIfInBounds_ne (by omega)]
theorem ended_ne {ct : Array Value} {o k : Nat} (h : k < o ∨ o + 9 ≤ k) : (ended ct o)[k]? = ct[k]? := by
  unfold ended
  repeat rw [Array.getElem?_setIfInBounds_ne (by omega)]
theorem begun_ne {ct : Array Value} {o k ob oo ln lcp sn P : Nat} {a : Acc} (h : k < o ∨ o + 9 ≤ k) : (begun ct o ob oo ln lcp sn P a)[k]? = ct[k]? := by
  unfold begun
  repeat rw [Array.getElem?_setIfInBounds_ne (by omega)]
theorem Idle.other {ct ct' : Array Value} {o : Nat} {s : Sl} (h : Idle ct o s) (he : ∀ k, o ≤ k → k < o + 9 → ct'[k]? = ct[k]?) : Idle ct' o s := by
  obtain ⟨h0, h1, ⟨c, h2⟩, h3, h4, h5, h6, h7, h8⟩ := h
  exact ⟨(he _ (by omega) (by omega)).trans h0, (he _ (by omega) (by omega)).trans h1, ⟨c, (he _ (by omega) (by omega)).trans h2⟩, (he _ (by omega) (by omega)).trans h3, (he _ (by omega) (by omega)).trans h4, (he _ (by omega) (by omega)).trans h5, (he _ (by omega) (by omega)).trans h6, (he _ (by omega) (by omega)).trans h7, (he _ (by omega) (by omega)).trans h8⟩
theorem Busy.other {ct ct' : Array Value} {o P k : Nat} {s : Sl} {a : Acc} (h : Busy ct o s P k a) (he : ∀ k, o ≤ k → k < o + 9 → ct'[k]? = ct[k]?) : Busy ct' o s P k a := by
  obtain ⟨h0, h1, h2, h3, h4, h5, h6, h7, h8⟩ := h
  exact ⟨(he _ (by omega) (by omega)).trans h0, (he _ (by omega) (by omega)).trans h1, (he _ (by omega) (by omega)).trans h2, (he _ (by omega) (by omega)).trans h3, (he _ (by omega) (by omega)).trans h4, (he _ (by omega) (by omega)).trans h5, (he _ (by omega) (by omega)).trans h6, (he _ (by omega) (by omega)).trans h7, (he _ (by omega) (by omega)).trans h8⟩
theorem Busy.lt {ct : Array Value} {o P k : Nat} {s : Sl} {a : Acc} (h : Busy ct o s P k a) : o + 8 < ct.size := (Array.getElem?_eq_some_iff.1 h.2.2.2.2.2.2.2.2).1
theorem Busy.asked {ct : Array Value} {o P k : Nat} {s : Sl} {a : Acc} (h : Busy ct o s P k a) (a2 : Acc) : Busy (askedc ct o a2) o s P k a2 := by
  have hl := h.lt
  obtain ⟨h0, h1, h2, h3, h4, h5, h6, h7, h8⟩ := h
  refine ⟨?_, ?_, ?_, ?_, ?_, ?_, ?_, ?_, ?_⟩
  · unfold askedc
    repeat rw [Array.getElem?_setIfInBounds_ne (by omega)]
    exact h0
  · unfold askedc
    repeat rw [Array.getElem?_setIfInBounds_ne (by omega)]
    exact h1
  · unfold askedc
    repeat rw [Array.getElem?_setIfInBounds_ne (by omega)]
    exact h2
  · unfold askedc
    repeat rw [Array.getElem?_setIfInBounds_ne (by omega)]
    exact Array.getElem?_setIfInBounds_self_of_lt (by (try simp only [Array.size_setIfInBounds]); omega)
  · unfold askedc
    repeat rw [Array.getElem?_setIfInBounds_ne (by omega)]
    exact Array.getElem?_setIfInBounds_self_of_lt (by (try simp only [Array.size_setIfInBounds]); omega)
  · unfold askedc
    repeat rw [Array.getElem?_setIfInBounds_ne (by omega)]
    exact Array.getElem?_setIfInBounds_self_of_lt (by (try simp only [Array.size_setIfInBounds]); omega)
  · unfold askedc
    repeat rw [Array.getElem?_setIfInBounds_ne (by omega)]
    exact Array.getElem?_setIfInBounds_self_of_lt (by (try simp only [Array.size_setIfInBounds]); omega)
  · unfold askedc
    repeat rw [Array.getElem?_setIfInBounds_ne (by omega)]
    exact Array.getElem?_setIfInBounds_self_of_lt (by (try simp only [Array.size_setIfInBounds]); omega)
  · unfold askedc
    repeat rw [Array.getElem?_setIfInBounds_ne (by omega)]
    exact Array.getElem?_setIfInBounds_self_of_lt (by (try simp only [Array.size_setIfInBounds]); omega)
theorem Busy.ended {ct : Array Value} {o P k : Nat} {s : Sl} {a : Acc} (h : Busy ct o s P k a) : Idle (ended ct o) o s := by
  have hl := h.lt
  obtain ⟨h0, h1, h2, h3, h4, h5, h6, h7, h8⟩ := h
  refine ⟨?_, ?_, ⟨k, ?_⟩, ?_, ?_, ?_, ?_, ?_, ?_⟩
  · unfold Drivec.ended
    repeat rw [Array.getElem?_setIfInBounds_ne (by omega)]
    exact h0
  · unfold Drivec.ended
    repeat rw [Array.getElem?_setIfInBounds_ne (by omega)]
    exact Array.getElem?_setIfInBounds_self_of_lt (by (try simp only [Array.size_setIfInBounds]); omega)
  · unfold Drivec.ended
    repeat rw [Array.getElem?_setIfInBounds_ne (by omega)]
    exact h2
  · unfold Drivec.ended
    repeat rw [Array.getElem?_setIfInBounds_ne (by omega)]
    exact Array.getElem?_setIfInBounds_self_of_lt (by (try simp only [Array.size_setIfInBounds]); omega)
  · unfold Drivec.ended
    repeat rw [Array.getElem?_setIfInBounds_ne (by omega)]
    exact Array.getElem?_setIfInBounds_self_of_lt (by (try simp only [Array.size_setIfInBounds]); omega)
  · unfold Drivec.ended
    repeat rw [Array.getElem?_setIfInBounds_ne (by omega)]
    exact Array.getElem?_setIfInBounds_self_of_lt (by (try simp only [Array.size_setIfInBounds]); omega)
  · unfold Drivec.ended
    repeat rw [Array.getElem?_setIfInBounds_ne (by omega)]
    exact Array.getElem?_setIfInBounds_self_of_lt (by (try simp only [Array.size_setIfInBounds]); omega)
  · unfold Drivec.ended
    repeat rw [Array.getElem?_setIfInBounds_ne (by omega)]
    exact Array.getElem?_setIfInBounds_self_of_lt (by (try simp only [Array.size_setIfInBounds]); omega)
  · unfold Drivec.ended
    repeat rw [Array.getElem?_setIfInBounds_ne (by omega)]
    exact Array.getElem?_setIfInBounds_self_of_lt (by (try simp only [Array.size_setIfInBounds]); omega)
theorem Idle.begun {ct : Array Value} {o : Nat} {ob oo ln lcp : Nat} (h : Idle ct o ⟨some ⟨ob, oo, none⟩, ln, lcp⟩) (sn P : Nat) (a : Acc) : Busy (begun ct o ob oo ln lcp sn P a) o ⟨tailO ob oo lcp, ln - 1, lcp - 1⟩ P sn a := by
  have hl := idle_lt h
  refine ⟨?_, ?_, ?_, ?_, ?_, ?_, ?_, ?_, ?_⟩
  all_goals
    unfold Drivec.begun
    repeat rw [Array.getElem?_setIfInBounds_ne (by omega)]
    exact Array.getElem?_setIfInBounds_self_of_lt (by (try simp only [Array.size_setIfInBounds]); omega)
/-- what is made later changes nothing -/
theorem InvG.later {w : World} {B base gC gT T Bf : Nat} {bs : Array Value} {lb : List Cap1} {Z : Mac} {ls : List (List (Int × Int))} {s : RS} {w' : World} (h : InvG w B base gC gT T Bf bs lb Z ls s) (hb : Below w.heap.size w w') : InvG w' B base gC gT T Bf bs lb Z ls s := by
  obtain ⟨⟨r, sS, sK, ct, Ps, qs, hC, hT, hE, hS, hK, ht, hsep⟩, h1, h2, h3, h4, h5⟩ := h
  have ho : Only (fun _ => False) w w' := Only.of_below hb (Nat.le_refl _)
  refine ⟨⟨r, sS, sK, ct, Ps, qs, hC.below hb hC.lt, hT.below hb hT.lt, hE.only ho (fun _ _ _ _ h => h), hS.below hb (Nat.le_refl _), hK.below hb (Nat.le_refl _), fun i hi => ?_, hsep⟩, ⟨h1.1, fun x hx => (h1.2.1 x hx).below hb (h1.2.1 x hx).lt, h1.2.2⟩, h2, h3, ⟨h4.1, Nat.le_trans h4.2.1 hb.size, h4.2.2⟩, h5⟩
  obtain ⟨n, so, l, e1, e2, e3, e4, e5⟩ := ht i hi
  refine ⟨n, so, l, e1, e2, e3, e4.below (hb.mono (Nat.le_trans h4.1 h4.2.1)), ?_⟩
  rcases e5 with e5 | ⟨k, f, g1, g2, g3, g4, g5, g6⟩
  · exact .inl e5
  · exact .inr ⟨k, f, g1, g2, g3, g4, g5, g6.only ho (fun h => h) (fun _ _ h => h) (fun _ _ _ _ _ h => h) (Nat.le_refl _)⟩
end Go.Proofs.Ytffppdcpiieapaa.Drivec

namespace Go.Proofs.Ytffppdcpiieapaa.Drivec
open Go.RowKit Go.Proofs.Ytffppdcpiieapaa.Memc Go.Proofs.Ytffppdcpiieapaa.Procc Go.Proofs.Ytffppdcpiieapaa.Storec
set_option linter.unusedVariables false
set_option maxRecDepth 100000

theorem guard_idle (g8 g9 : Nat) (w : World) :
    CallsD Try.prog 55 #[.pointer (some ⟨g8, 0, none⟩), .pointer (some ⟨g9, 0, none⟩)] .returning w fun e u' w' => e = .returned (.tuple #[]) ∧ u' = .returning ∧ w' = w := by
  refine callsD_of_wpS Try.func55 rfl fun c₀ cs hu => ?_
  apply wpS_seq
  apply wpS_region
  simp [wpOpsS, go_sem, recoverD, hu, Try.ntmps55, Exit.thenS]
  refine wpS_cond (t := false) (by simp [Act.eval, Array.replicate]) ?_
  simp only [Bool.false_eq_true, if_false]
  refine wpS_of_wp (wp_skip ?_)
  cases c₀
  simp_all [bodyPostS, results, Try.results55]

end Go.Proofs.Ytffppdcpiieapaa.Drivec

namespace Go.Proofs.Ytffppdcpiieapaa.Drivec
open Go.RowKit Go.Proofs.Ytffppdcpiieapaa.Memc Go.Proofs.Ytffppdcpiieapaa.Newc
set_option linter.unusedVariables false
set_option maxRecDepth 100000

/-- the slice s has lists of these lengths -/
def Lens (w : World) (s : Sl) (ns : List Nat) : Prop :=
  s.n = ns.length ∧ s.n ≤ s.c ∧ s.c ≤ maxLen ∧ (∀ x ∈ ns, x ≤ maxLen) ∧ (0 < s.n → ∃ b off, s.A = some ⟨b, off, none⟩ ∧ b < w.heap.size ∧ ∀ (i n : Nat), ns[i]? = some n → ∃ (q : Sl), q.n = n ∧ w.cell? ⟨b, off + i, none⟩ = some (.slice q.A q.n q.c))
theorem Lens.below {w w' : World} {s : Sl} {ns : List Nat} (h : Lens w s ns) (hb : Below w.heap.size w w') : Lens w' s ns :=
  ⟨h.1, h.2.1, h.2.2.1, h.2.2.2.1, fun hn => by
    obtain ⟨b, off, e, hlt, hc⟩ := h.2.2.2.2 hn
    refine ⟨b, off, e, Nat.lt_of_lt_of_le hlt hb.size, fun i n hi => ?_⟩
    obtain ⟨q, hq, hcq⟩ := hc i n hi
    exact ⟨q, hq, (hb.cell (p := ⟨b, _, none⟩) hlt).trans hcq⟩⟩
/-- what an index comes to -/
def Found (w : World) (yes : Bool) (e : Ending) (w' : World) : Prop := (∃ n : Int, -1 ≤ n ∧ n ≤ 9223372036854775807 ∧ decide (0 ≤ n) = yes ∧ e = .returned (.int .i64 n)) ∧ w = w'

theorem long_Op (s : Sl) (w : World) (hs : s.n ≤ maxLen) (b : Bool) (hb : decide (1000 < (s.n : Int)) = b) : Calls Try.prog 85 #[.slice s.A s.n s.c] w fun e w' => e = .returned (.bool b) ∧ w = w' := by
  have h1 : (s.n : Int) ≤ 9223372036854775807 := by unfold maxLen at hs; omega
  have HB := Lib.hid hb
  clear hb hs
  go_enter Try.func85, Try.ntmps85
  go_wp2
  go_ret
  have hb := HB.out
  subst hb
  exact ⟨by simp, rfl⟩
set_option maxHeartbeats 2000000 in
theorem index_Op (s : Sl) (w : World) (ns : List Nat) (yes : Bool) (h : Lens w s ns) (hy : ns.any (fun x => decide (1000 < x)) = yes) :
    Calls Try.prog 74 #[.slice s.A s.n s.c, .func (.func 85) #[] #[]] w (Found w yes) := by
  have hn0 : s.n ≤ maxLen := Nat.le_trans h.2.1 h.2.2.1
  have hn1 : (s.n : Int) ≤ 9223372036854775807 := by unfold maxLen at hn0; omega
  have HH := Lib.hid h
  have HY := Lib.hid hy
  clear h hy hn0
  go_enter Try.func74, Try.ntmps74
  go_wp2_with fail
  go_loop [8] (fun i => ∃ j : Nat, i = .int .i64 j ∧ j ≤ s.n ∧ ∀ m x, m < j → ns[m]? = some x → x ≤ 1000) (fun i => s.n - (intOf i).toNat)
  case atStart => exact ⟨0, rfl, Nat.zero_le _, fun m x hm => absurd hm (Nat.not_lt_zero _)⟩
  case round =>
    obtain ⟨j, rfl, hj, hall⟩ := hrel
    have HA := Lib.hid hall
    clear hall
    by_cases hlt : j < s.n
    · obtain ⟨b, off, hA, hbz, hc⟩ := HH.out.2.2.2.2 (by omega)
      obtain ⟨x, hx⟩ : ∃ x, ns[j]? = some x := ⟨_, List.getElem?_eq_getElem (by have := HH.out.1; omega)⟩
      obtain ⟨q, hq, hcq⟩ := hc j x hx
      subst hq
      have hxm := HH.out.2.2.2.1 q.n (List.mem_of_getElem? hx)
      have HX := Lib.hid hx
      have i0 : (0 : Int) ≤ j := by omega
      have i1 : (j : Int) < s.n := by omega
      obtain ⟨sA, sn, sc⟩ := s
      simp only at hA
      subst hA
      clear hc hx
      by_cases h1 : 1000 < q.n
      · go_wp2_with (go_at_call 85; (with_reducible refine (long_Op q _ ?_ true ?_).mono ?_); (omega); (simp; omega); rintro e w' ⟨rfl, rfl⟩)
        go_ret
        refine ⟨⟨j, by omega, by omega, ?_, rfl⟩, rfl⟩
        have hyt : ns.any (fun x => decide (1000 < x)) = true := List.any_eq_true.2 ⟨q.n, List.mem_of_getElem? HX.out, by simpa using h1⟩
        rw [← HY.out, hyt]
        simp
      · go_wp2_with (go_at_call 85; (with_reducible refine (long_Op q _ ?_ false ?_).mono ?_); (omega); (simp; omega); rintro e w' ⟨rfl, rfl⟩)
        go_round
        case rel =>
          refine ⟨j + 1, by go_num, by omega, fun m y hm hy => ?_⟩
          by_cases hmj : m = j
          · subst hmj
            rw [HX.out] at hy
            injection hy with hy
            omega
          · exact HA.out m y (by omega) hy
        case measure => simp [intOf]; omega
    · obtain rfl : j = s.n := by omega
      go_wp2
      go_ret
      refine ⟨⟨-1, by omega, by omega, ?_, rfl⟩, rfl⟩
      have hyf : ns.any (fun x => decide (1000 < x)) = false := by
        rw [List.any_eq_false]
        intro x hx
        obtain ⟨m, hm, rfl⟩ := List.getElem_of_mem hx
        have := HA.out m _ (by have := HH.out.1; omega) (List.getElem?_eq_getElem hm)
        simpa using this
      rw [← HY.out, hyf]
      rfl
set_option maxHeartbeats 2000000 in
theorem contains_Op (s : Sl) (w : World) (ns : List Nat) (yes : Bool) (h : Lens w s ns) (hy : ns.any (fun x => decide (1000 < x)) = yes) :
    Calls Try.prog 41 #[.slice s.A s.n s.c, .func (.func 85) #[] #[]] w fun e w' => e = .returned (.bool yes) ∧ w = w' := by
  have HC := Lib.hid (index_Op s w ns yes h hy)
  clear h hy
  go_enter Try.func41, Try.ntmps41
  go_wp2_with (go_at_call 74; refine (HC.out).mono ?_; rintro e w' ⟨⟨n, hn1, hn2, hn3, rfl⟩, rfl⟩; have HN3 := Lib.hid hn3; clear hn3)
  go_ret
  have := HN3.out
  subst this
  exact ⟨by simp, rfl⟩
set_option maxHeartbeats 4000000 in
theorem mayrun_yes_Op (w : World) (k K T M : Int) (s p : Sl) (ns : List Nat) (hm : (Cfg.mk k K T M).may) (h : Lens w s ns) (hT : (s.n : Int) = T) (hall : ns.any (fun x => decide (1000 < x)) = false) (hp : p.n ≤ 20000) :
    Calls Try.prog 53 #[.agg #[.int .i64 k, .int .i64 K, .int .i64 T, .int .i64 M], .slice s.A s.n s.c, .slice p.A p.n p.c] w fun e w' => e = .returned (.bool true) ∧ Below w.heap.size w w' := by
  obtain ⟨⟨k1, k2⟩, ⟨a1, a2⟩, ⟨t1, t2⟩, ⟨m1, m2⟩⟩ := hm
  simp only at k1 k2 a1 a2 t1 t2 m1 m2
  have B0 : Hid (Below w.heap.size w (w.alloc (.cells #[.int .i64 k, .int .i64 K, .int .i64 T, .int .i64 M] 23))) := Lib.hid ((Below.refl _ _).alloc (Nat.le_refl _) _)
  have X0 : Hid (Blk (w.alloc (.cells #[.int .i64 k, .int .i64 K, .int .i64 T, .int .i64 M] 23)) w.heap.size 23 #[.int .i64 k, .int .i64 K, .int .i64 T, .int .i64 M]) := Lib.hid (Blk.new _ _ _)
  have HH := Lib.hid h
  have HA := Lib.hid hall
  have hTb : ((s.n : Int) == T) = true := by simpa using hT
  have hpb : (p.n : Int) ≤ 20000 := by omega
  clear h hall hT hp
  go_enter Try.func53, Try.ntmps53
  go_wp2_with (first | (go_at_call 51; refine (may_yes _ _ _ _ _ (by omega) (by omega) (by omega) (by omega) (by omega) (by omega) (by omega) (by omega)).mono ?_; rintro e w1 ⟨rfl, hb1⟩; have B1 := Lib.hid (B0.out.trans (hb1.mono B0.out.size)); have X1 := Lib.hid (X0.out.below hb1 X0.out.lt); have hx1 := X1.out.cell; clear hb1) | (go_at_call 41; refine (contains_Op s _ ns false (HH.out.below B1.out) HA.out).mono ?_; rintro e w2 ⟨rfl, rfl⟩))
  go_ret
  exact ⟨rfl, B1.out⟩

set_option maxHeartbeats 4000000 in
theorem mayrun_no_Op (w : World) (k K T M : Int) (s p : Sl) (ns : List Nat) (h : Lens w s ns) (hps : p.n ≤ maxLen)
    (hno : ¬ ((Cfg.mk k K T M).may ∧ (s.n : Int) = T ∧ ns.any (fun x => decide (1000 < x)) = false ∧ p.n ≤ 20000)) :
    Calls Try.prog 53 #[.agg #[.int .i64 k, .int .i64 K, .int .i64 T, .int .i64 M], .slice s.A s.n s.c, .slice p.A p.n p.c] w fun e w' => e = .returned (.bool false) ∧ Below w.heap.size w w' := by
  have B0 : Hid (Below w.heap.size w (w.alloc (.cells #[.int .i64 k, .int .i64 K, .int .i64 T, .int .i64 M] 23))) := Lib.hid ((Below.refl _ _).alloc (Nat.le_refl _) _)
  have X0 : Hid (Blk (w.alloc (.cells #[.int .i64 k, .int .i64 K, .int .i64 T, .int .i64 M] 23)) w.heap.size 23 #[.int .i64 k, .int .i64 K, .int .i64 T, .int .i64 M]) := Lib.hid (Blk.new _ _ _)
  have HH := Lib.hid h
  have hsz : s.n ≤ maxLen := Nat.le_trans h.2.1 h.2.2.1
  have z1 : (s.n : Int) ≤ 9223372036854775807 := by unfold maxLen at hsz; omega
  have z2 : (p.n : Int) ≤ 9223372036854775807 := by unfold maxLen at hps; omega
  clear h hsz hps
  by_cases hm : (Cfg.mk k K T M).may
  · obtain ⟨⟨k1, k2⟩, ⟨a1, a2⟩, ⟨t1, t2⟩, ⟨m1, m2⟩⟩ := id hm
    simp only at k1 k2 a1 a2 t1 t2 m1 m2
    by_cases hT : (s.n : Int) = T
    · have hTb : ((s.n : Int) == T) = true := by simpa using hT
      rcases hall : ns.any (fun x => decide (1000 < x)) with _ | _
      · have hpb : decide ((p.n : Int) ≤ 20000) = false := by
          have : ¬ p.n ≤ 20000 := fun hp => hno ⟨hm, hT, hall, hp⟩
          simp; omega
        have HA := Lib.hid hall
        clear hno hm hall hT
        go_enter Try.func53, Try.ntmps53
        go_wp2_with (first | (go_at_call 51; refine (may_yes _ _ _ _ _ (by omega) (by omega) (by omega) (by omega) (by omega) (by omega) (by omega) (by omega)).mono ?_; rintro e w1 ⟨rfl, hb1⟩; have B1 := Lib.hid (B0.out.trans (hb1.mono B0.out.size)); have X1 := Lib.hid (X0.out.below hb1 X0.out.lt); have hx1 := X1.out.cell; clear hb1) | (go_at_call 41; refine (contains_Op s _ ns false (HH.out.below B1.out) HA.out).mono ?_; rintro e w2 ⟨rfl, rfl⟩))
        go_ret
        exact ⟨rfl, B1.out⟩
      · have HA := Lib.hid hall
        clear hno hm hall hT
        go_enter Try.func53, Try.ntmps53
        go_wp2_with (first | (go_at_call 51; refine (may_yes _ _ _ _ _ (by omega) (by omega) (by omega) (by omega) (by omega) (by omega) (by omega) (by omega)).mono ?_; rintro e w1 ⟨rfl, hb1⟩; have B1 := Lib.hid (B0.out.trans (hb1.mono B0.out.size)); have X1 := Lib.hid (X0.out.below hb1 X0.out.lt); have hx1 := X1.out.cell; clear hb1) | (go_at_call 41; refine (contains_Op s _ ns true (HH.out.below B1.out) HA.out).mono ?_; rintro e w2 ⟨rfl, rfl⟩))
        go_ret
        exact ⟨rfl, B1.out⟩
    · have hTb : ((s.n : Int) == T) = false := by simpa using hT
      clear hno hm hT
      go_enter Try.func53, Try.ntmps53
      go_wp2_with (go_at_call 51; refine (may_yes _ _ _ _ _ (by omega) (by omega) (by omega) (by omega) (by omega) (by omega) (by omega) (by omega)).mono ?_; rintro e w1 ⟨rfl, hb1⟩; have B1 := Lib.hid (B0.out.trans (hb1.mono B0.out.size)); have X1 := Lib.hid (X0.out.below hb1 X0.out.lt); have hx1 := X1.out.cell; clear hb1)
      go_ret
      exact ⟨rfl, B1.out⟩
  · have HM := Lib.hid hm
    clear hno hm
    go_enter Try.func53, Try.ntmps53
    go_wp2_with (go_at_call 51; refine (may_no _ _ _ _ _ HM.out).mono ?_; rintro e w1 ⟨rfl, hb1⟩; have B1 := Lib.hid (B0.out.trans (hb1.mono B0.out.size)); clear hb1)
    go_ret
    exact ⟨rfl, B1.out⟩
end Go.Proofs.Ytffppdcpiieapaa.Drivec

namespace Go.Proofs.Ytffppdcpiieapaa.Drivec
open Go.RowKit Go.Proofs.Ytffppdcpiieapaa.Memc Go.Proofs.Ytffppdcpiieapaa.Procc Go.Proofs.Ytffppdcpiieapaa.Storec Go.Proofs.Ytffppdcpiieapaa.Newc
set_option linter.unusedVariables false
set_option maxRecDepth 100000

theorem thread_cell : (Try.prog.info? 104).map (fun i => (i.zero, i.size, i.bytes)) = some (some (.agg #[.slice none 0 0, .nilIface, .int .i64 0, .int .i64 0, .int .i64 0, .int .i64 0, .int .u64 0, .int .u64 0, .bool false]), 9, 96) := by kernel_rfl
def thz (T : Nat) : Array Value := madeCells #[.slice none 0 0, .nilIface, .int .i64 0, .int .i64 0, .int .i64 0, .int .i64 0, .int .u64 0, .int .u64 0, .bool false] (T * 9)
theorem run_mkT (T : Nat) (hT : T ≤ 8) (w : World) :
    (Instr.makeSlice 100 (.int .i64 T) (.int .i64 T)).run Try.prog w = .ok (.slice (some ⟨w.heap.size, 0, none⟩) T T) (w.alloc (.cells (thz T) 104)) := by
  obtain ⟨i0, hi0, hz0, hz1, hz2⟩ := info_parts thread_cell
  have hr := run_make (P := Try.prog) w 100 104 i0 _ Try.underlying100 hi0 hz0 .i64 .i64 T T (by omega) (Int.le_refl _) (by rw [hz2]; omega) (by omega)
  rw [hz1] at hr
  simp only [Int.toNat_natCast] at hr
  exact hr
theorem thz_at (T j r : Nat) (hj : j < T) (hr : r < 9) : (thz T)[j * 9 + r]? = (#[.slice none 0 0, .nilIface, .int .i64 0, .int .i64 0, .int .i64 0, .int .i64 0, .int .u64 0, .int .u64 0, .bool false] : Array Value)[r]? := by
  have h1 : j * 9 + r < T * 9 := by omega
  have h2 : (j * 9 + r) % 9 = r := by omega
  simp [thz, madeCells, h1, h2, hr]

/-- the slice s reads as the picks l, in memory below B -/
def RdP (w : World) (B : Nat) (s : Sl) (l : List (Int × Int)) : Prop :=
  s.n = l.length ∧ s.n ≤ s.c ∧ s.c ≤ maxLen ∧ (∀ x ∈ l, -9223372036854775808 ≤ x.1 ∧ x.1 ≤ 9223372036854775807) ∧
  (0 < s.n → ∃ b off, s.A = some ⟨b, off, none⟩ ∧ b < B ∧ ∀ (i : Nat) (x : Int × Int), l[i]? = some x → w.cell? ⟨b, off + i * 2, none⟩ = some (.int .i64 x.1) ∧ w.cell? ⟨b, off + i * 2 + 1, none⟩ = some (.int .u32 x.2))
theorem RdP.below {w w' : World} {B : Nat} {s : Sl} {l : List (Int × Int)} (h : RdP w B s l) (hb : Below B w w') : RdP w' B s l :=
  ⟨h.1, h.2.1, h.2.2.1, h.2.2.2.1, fun hn => by
    obtain ⟨b, off, e, hlt, hc⟩ := h.2.2.2.2 hn
    refine ⟨b, off, e, hlt, fun i x hx => ?_⟩
    have h5 := hc i x hx
    exact ⟨(hb.cell (p := ⟨b, _, none⟩) hlt).trans h5.1, (hb.cell (p := ⟨b, _, none⟩) hlt).trans h5.2⟩⟩
/-- the run of some picks -/
def runs (s : D) (l : List (Int × Int)) : D := l.foldl (fun s p => turn s p.1) s
theorem idle_set0 {ct : Array Value} {o : Nat} {s : Sl} (h : Idle ct o s) (q : Sl) : Idle (ct.setIfInBounds o (.slice q.A q.n q.c)) o q := by
  have hlt := idle_lt h
  obtain ⟨h0, h1, ⟨c, h2⟩, h3, h4, h5, h6, h7, h8⟩ := h
  refine ⟨Array.getElem?_setIfInBounds_self_of_lt (by omega), ?_, ⟨c, ?_⟩, ?_, ?_, ?_, ?_, ?_, ?_⟩
  all_goals
    rw [Array.getElem?_setIfInBounds_ne (by omega)]
    assumption
theorem idle_setother {ct : Array Value} {o o' : Nat} {s : Sl} (h : Idle ct o' s) (hoo : o' + 9 ≤ o ∨ o + 1 ≤ o') (v : Value) : Idle (ct.setIfInBounds o v) o' s := by
  obtain ⟨h0, h1, ⟨c, h2⟩, h3, h4, h5, h6, h7, h8⟩ := h
  refine ⟨?_, ?_, ⟨c, ?_⟩, ?_, ?_, ?_, ?_, ?_, ?_⟩
  all_goals
    rw [Array.getElem?_setIfInBounds_ne (by omega)]
    assumption
/-- what a run comes to -/
def Ran (w : World) (B : Nat) (s : D) (e : Ending) (w' : World) : Prop :=
  ∃ (r : R) (sS sK : Sl) (base : Nat), e = .returned (.tuple #[.agg #[.slice sS.A sS.n sS.c, .slice sK.A sK.n sK.c, .int .u64 r.e, .int .u64 r.f, .slice r.L.A r.L.n r.L.c, .slice r.P.A r.P.n r.P.c, .int .u64 r.h, .int .u64 r.t, .slice r.K.A r.K.n r.K.c, .slice r.X.A r.X.n r.X.c, .slice r.S.A r.S.n r.S.c], .int .i64 0]) ∧ Row w' base 59 8 sS s.steps.length (flatS s.steps) ∧ Row w' base 55 7 sK s.calls.length (flatC s.calls) ∧ Endw w' base r s.m ∧ Fr B w w'

end Go.Proofs.Ytffppdcpiieapaa.Drivec

namespace Go.Proofs.Ytffppdcpiieapaa.Drivec
open Go.RowKit Go.Proofs.Ytffppdcpiieapaa.Memc Go.Proofs.Ytffppdcpiieapaa.Procc Go.Proofs.Ytffppdcpiieapaa.Storec Go.Proofs.Ytffppdcpiieapaa.Newc
set_option linter.unusedVariables false
set_option maxRecDepth 100000

def nils (T : Nat) : Array Value := madeCells #[.slice none 0 0] (T * 1)
def opz (n : Nat) : Array Value := madeCells #[.int .i64 0, .int .u32 0] (n * 2)
/-- the slice s reads as the lists of accesses ls, in memory below B -/
def RdLA (w : World) (B : Nat) (s : Sl) (ls : List (List Acc)) : Prop :=
  s.n = ls.length ∧ s.n ≤ s.c ∧ s.c ≤ maxLen ∧ (0 < s.n → ∃ b off, s.A = some ⟨b, off, none⟩ ∧ b < B ∧ ∀ (i : Nat) (l : List Acc), ls[i]? = some l → ∃ sa : Sl, w.cell? ⟨b, off + i, none⟩ = some (.slice sa.A sa.n sa.c) ∧ RdA w B sa l)
/-- what a copy of the list of lists comes to -/
def Cloned (w : World) (T : Nat) (vs : List Value) (e : Ending) (w' : World) : Prop :=
  ∃ (g lc : Nat) (cs : Array Value), e = .returned (.slice (some ⟨g, 0, none⟩) T lc) ∧ Blk w' g 27 cs ∧ w.heap.size ≤ g ∧ (∀ (i : Nat) (v : Value), vs[i]? = some v → cs[i]? = some v) ∧ Below w.heap.size w w'
end Go.Proofs.Ytffppdcpiieapaa.Drivec

namespace Go.Proofs.Ytffppdcpiieapaa.Drivec
open Go.ChangeShapes Go.WideShapes Go.RowKit Go.Deep Go.Proofs.Ytffppdcpiieapaa.Wordc Go.Proofs.Ytffppdcpiieapaa.Memc Go.Proofs.Ytffppdcpiieapaa.Procc
set_option linter.unusedVariables false
set_option maxRecDepth 100000

section
variable {H : Type} {enc : TypeId × Value → H} {w : World} {base : Nat} {spare : Nat → Bool} {held : Bool}
theorem open_rows {E : Type} {t e : TypeId} (ht : Try.prog.underlying t = some (.slice e)) (cells : E → List Value) (k : Nat) (hk : Try.prog.cellsOf e = k) (hk0 : 0 < k) (ok : E → Prop)
    (ho : ∀ n cs x, DataW.trod enc Try.prog w base spare held n e cs = some x → ∃ y : E, cs = cells y ∧ ok y) (hl : ∀ y, (cells y).length = k)
    {fuel : Nat} {cs : List Value} {x : DataW H × List MemPlace} (h : DataW.trod enc Try.prog w base spare held fuel t cs = some x) :
    ∃ (s : Sl) (l : List E), cs = [.slice s.A s.n s.c] ∧ s.n = l.length ∧ s.n ≤ s.c ∧ s.c ≤ maxLen ∧ (∀ y ∈ l, ok y) ∧
      (0 < s.n → ∃ b off, s.A = some ⟨b, off, none⟩ ∧ b < w.heap.size ∧ ∀ (i : Nat) (y : E), l[i]? = some y → ∀ (j : Nat) (v : Value), (cells y)[j]? = some v → w.cell? ⟨b, off + i * k + j, none⟩ = some v) := by
  rcases open_slice ht h with ⟨hcs, _⟩ | ⟨a, len, cap, m, n, D, Pl, hcs, hb, hlc, hm, hmm, _, hi⟩
  · exact ⟨⟨none, 0, 0⟩, [], hcs, rfl, Nat.le_refl _, Nat.zero_le _, (fun x hx => by cases hx), fun hn => absurd hn (by simp)⟩
  · have hlm : len ≤ m := by rw [hmm]; split <;> omega
    obtain ⟨l, hlen, hp⟩ := list_choose (P := fun i (s : E) => ok s ∧ ∀ (j : Nat) (v : Value), (cells s)[j]? = some v → w.cell? (a.add (i * k + j)) = some v) len fun i hil => by
      obtain ⟨cs', hc, ht⟩ := hi i (by omega)
      rw [hk] at hc
      obtain ⟨s, hs, hok⟩ := ho _ _ _ ht
      obtain ⟨_, hcl, hat⟩ := World.cells?_some hc
      refine ⟨s, hok, fun j v hj => ?_⟩
      rw [← hs] at hj
      have hj8 : j < k := by have h1 := (List.getElem?_eq_some_iff.1 hj).1; have h2 := hl s; rw [← hs] at h2; omega
      rw [← Go.Deep.add_add, hat j hj8, hj]
    refine ⟨⟨some a, len, cap⟩, l, hcs, hlen.symm, hlc, hm, fun x hx => ?_, fun hn => ?_⟩
    · obtain ⟨i, hi', rfl⟩ := List.getElem_of_mem hx
      exact (hp i _ (List.getElem?_eq_getElem hi')).1
    · have h0 : 0 < l.length := by simp only at hn; omega
      have hv0 : ∃ v, (cells l[0])[0]? = some v := ⟨_, List.getElem?_eq_getElem (by rw [hl]; exact hk0)⟩
      obtain ⟨v0, hv0⟩ := hv0
      have hc0 := (hp 0 _ (List.getElem?_eq_getElem h0)).2 0 _ hv0
      have hspot : a.spot = none := by
        have := World.cell?_spot hc0
        simpa [Addr.add] using this
      obtain ⟨b, off, sp⟩ := a
      simp only at hspot
      subst hspot
      have hblk := block_lt hc0
      rw [block_of_add] at hblk
      refine ⟨b, off, rfl, hblk, fun i x hx j v hj => ?_⟩
      have := (hp i x hx).2 j v hj
      have e : (⟨b, off, none⟩ : Addr).add (i * k + j) = ⟨b, off + i * k + j, none⟩ := by
        unfold Addr.add
        split
        · rename_i hz
          rw [show off + i * k + j = off by omega]
        · simp [Nat.add_assoc]
      rw [← e]; exact this

def acells (a : Acc) : List Value := [.int .i64 a.d, .int .i64 a.ar, .int .i64 a.at_, .int .u64 a.old, .int .u64 a.new]
def pcells (p : Int × Int) : List Value := [.int .i64 p.1, .int .u32 p.2]
end
end Go.Proofs.Ytffppdcpiieapaa.Drivec

namespace Go.Proofs.Ytffppdcpiieapaa.Drivec
open Go.RowKit Go.Proofs.Ytffppdcpiieapaa.Memc Go.Proofs.Ytffppdcpiieapaa.Procc Go.Proofs.Ytffppdcpiieapaa.Storec Go.Proofs.Ytffppdcpiieapaa.Newc
set_option linter.unusedVariables false
set_option maxRecDepth 100000

structure Good (m0 : Memc.M) (ths : List Int) (s : D) : Prop where
  rep : replay m0 s.steps = some s.m
  len : s.calls.length = s.steps.length
  call : ∀ (i : Nat) (x : St), s.steps[i]? = some x → ∃ z, s.calls[i]? = some ⟨x.th, i, z⟩
  sub : (s.steps.map St.th).Sublist ths
  mok : s.m.ok
  lok : ∀ l ∈ s.left, ∀ a ∈ l, Acc.ok a
  sok : ∀ x ∈ s.steps, St.ok x
end Go.Proofs.Ytffppdcpiieapaa.Drivec

namespace Go.Proofs.Ytffppdcpiieapaa.Drivec
open Go.RowKit Go.Proofs.Ytffppdcpiieapaa.Memc Go.Proofs.Ytffppdcpiieapaa.Refc Go.Proofs.Ytffppdcpiieapaa.Newc Go.Proofs.Ytffppdcpiieapaa.Machc
set_option linter.unusedVariables false
set_option maxRecDepth 100000

def Cl.ck (c : Cl) : Ck := ⟨c.th, 0, 0, c.fr, c.fr, 0, c.out⟩
end Go.Proofs.Ytffppdcpiieapaa.Drivec

namespace Go.Proofs.Ytffppdcpiieapaa.Machc
open Go.RowKit Go.Proofs.Ytffppdcpiieapaa.Memc Go.Proofs.Ytffppdcpiieapaa.Refc
set_option linter.unusedVariables false
set_option maxRecDepth 100000

def lifeM (k : Int) (M : Nat) (f : FS) : Int := if k = 2 then (f.s / M) % 4294967296 else f.s / 4294967296
end Go.Proofs.Ytffppdcpiieapaa.Machc

namespace Go.Proofs.Ytffppdcpiieapaa.Machc
open Go.RowKit Go.Proofs.Ytffppdcpiieapaa.Memc Go.Proofs.Ytffppdcpiieapaa.Refc
set_option linter.unusedVariables false
set_option maxRecDepth 100000

/-- a thread that has no call on -/
def nilS : Sl := ⟨none, 0, 0⟩
def noneV : List Value := FS.none.v nilS
def flatN : Nat → List Value
  | 0 => []
  | n + 1 => flatN n ++ noneV
structure Nr (w : World) (base gR : Nat) (k : Int) (K T M : Nat) (r : R) (m : Memc.M) (sO sC sA : Sl) (nO nC nA : Nat) : Prop where
  hR : Blk w gR 80 #[.int .i64 k, .int .i64 K, .int .i64 T, .int .i64 M, .int .u64 r.e, .int .u64 r.f, .slice r.L.A r.L.n r.L.c, .slice r.P.A r.P.n r.P.c, .int .u64 r.h, .int .u64 r.t, .slice r.K.A r.K.n r.K.c, .slice r.X.A r.X.n r.X.c, .slice r.S.A r.S.n r.S.c, .slice sO.A sO.n sO.c, .slice sC.A sC.n sC.c, .slice sA.A sA.n sA.c, .slice none 0 0, .slice none 0 0, .int .u64 0, .int .u64 0, .slice none 0 0, .slice none 0 0, .int .u64 0, .int .u64 0, .slice none 0 0, .slice none 0 0, .slice none 0 0]
  hO : Row w base 83 24 sO nO (flatN nO)
  hC : Row w base 3 1 sC nC (List.replicate nC (.int .i64 (-1)))
  hA : Row w base 3 1 sA nA (List.replicate nA (.int .i64 0))
  ne : ∀ g, bl sC g → ¬ bl sA g
  hm : Rm w w.heap.size r m
  off : ∀ b, (b = gR ∨ bl sO b ∨ bl sC b ∨ bl sA b) → Off r b
  offb : ∀ b, b < base → Off r b
  low : base ≤ w.heap.size ∧ base ≤ gR
/-- a run that begins -/
def RS.first (m : Memc.M) (T : Nat) : RS := ⟨m, List.replicate T FS.none, List.replicate T (-1), List.replicate T 0, [], []⟩
end Go.Proofs.Ytffppdcpiieapaa.Machc

namespace Go.Proofs.Ytffppdcpiieapaa.Machc
open Go.RowKit Go.Proofs.Ytffppdcpiieapaa.Memc Go.Proofs.Ytffppdcpiieapaa.Refc Go.Proofs.Ytffppdcpiieapaa.Newc Go.Proofs.Ytffppdcpiieapaa.Replr
set_option linter.unusedVariables false
set_option maxRecDepth 100000

theorem wpList_app2 {w : World} {ops : Array Oper} {rest : List Oper} {o : Oper} {a : Act} {Q : Exit → Act → World → Prop} (hgd : o.guard = none) (x y : Operand) (t : TypeId) (ho : o.op = .call { callee := .builtin .append, args := #[x, y], argTypes := #[t, t] })
    (base : Nat) (E : TypeId) (i : TypeInfo) (z : Value) (size bytes : Nat) (ht : Try.prog.underlying t = some (.slice E)) (hi : Try.prog.info? E = some i) (hz : i.zero = some z) (hsize : i.size = size) (hby : i.bytes = bytes) (hzs : z.cells.size = size) (hsz : 0 < size)
    (s : Sl) (n : Nat) (xs : List Value) (hx : a.eval x = .slice s.A s.n s.c) (hown : Row w base E size s n xs) (gy : Nat) (news : List Value) (hy : a.eval y = .slice (some ⟨gy, 0, none⟩) 1 1) (hl : news.length = size)
    (hnews : ∀ j u, news[j]? = some u → w.cell? ⟨gy, j, none⟩ = some u) (h1 : ∀ u ∈ news, u.oneCell' = true) (h63 : n < 1000000) (hb1 : bytes ≤ 1000) (hb : base ≤ w.heap.size)
    (hk : ∀ s' w', Row w' base E size s' (n + 1) (xs ++ news) → Only (bl s) w w' → (∀ g, bl s' g → bl s g ∨ g = w.heap.size) → wpList Try.prog ops Q rest (a.put o.dst (.slice s'.A s'.n s'.c)) w') : wpList Try.prog ops Q (o :: rest) a w :=
  wpList_plain hgd fun _ hK => wp_app2 x y t ho base E i z size bytes ht hi hz hsize hby hzs hsz s n xs hx hown gy news hy hl hnews h1 h63 hb1 hb fun s' w' h2 h3 h4 => hK _ _ (hk s' w' h2 h3 h4)
theorem int_cell : (Try.prog.info? 3).map (fun i => (i.zero, i.size, i.bytes)) = some (some (.int .i64 0), 1, 8) := by kernel_rfl
def New3 (w : World) (k : Int) (K T M : Nat) (e : Ending) (w' : World) : Prop :=
  ∃ (gR gO gC gA co cc ca : Nat) (r : R) (cO cC cA : Array Value), e = .returned (.pointer (some ⟨gR, 0, none⟩)) ∧ Ir w' w.heap.size gR gO gC gA co cc ca k K T M r nilS nilS cO cC cA (List.replicate T nilS) (RS.first (newM k K T M) T) ∧ Below w.heap.size w w'
end Go.Proofs.Ytffppdcpiieapaa.Machc

namespace Go.Proofs.Ytffppdcpiieapaa.Machc
open Go.RowKit Go.Proofs.Ytffppdcpiieapaa.Memc Go.Proofs.Ytffppdcpiieapaa.Refc Go.Proofs.Ytffppdcpiieapaa.Drivec Go.Proofs.Ytffppdcpiieapaa.Procc
set_option linter.unusedVariables false
set_option maxRecDepth 100000

/-- a call of one access -/
def raw99 (a : Acc) : FS := { FS.none with pc := 99, raw := a }
def askR (f : FS) : Acc := f.raw
def tellR (f : FS) (was : Int) (dn : Bool) : FS := { f with out := num dn, pc := 0 }
/-- a turn -/
def turnR (ls : List (List Acc)) (s : RS) (t : Nat) (a : Acc) : RS := goR askR tellR (begR s t (raw99 a) 0 0) t
/-- both runs are at the same place -/
structure Sim (ls : List (List Acc)) (d : D) (s : RS) : Prop where
  len : d.left.length = ls.length ∧ s.on.length = ls.length ∧ s.at_.length = ls.length
  left : ∀ (t : Nat) (l : List Acc), ls[t]? = some l → ∃ n : Nat, n ≤ l.length ∧ s.at_[t]? = some (n : Int) ∧ d.left[t]? = some (l.drop n)
  m : s.m = d.m
  steps : s.steps = d.steps
  calls : s.calls = d.calls.map Cl.ck
  call : s.call = List.replicate ls.length (-1)
end Go.Proofs.Ytffppdcpiieapaa.Machc

namespace Go.Proofs.Ytffppdcpiieapaa.Machc
open Go.RowKit Go.Proofs.Ytffppdcpiieapaa.Memc Go.Proofs.Ytffppdcpiieapaa.Refc
set_option linter.unusedVariables false
set_option maxRecDepth 100000

end Go.Proofs.Ytffppdcpiieapaa.Machc

namespace Go.Proofs.Ytffppdcpiieapaa.Machc
open Go.RowKit Go.Proofs.Ytffppdcpiieapaa.Memc Go.Proofs.Ytffppdcpiieapaa.Refc Go.Proofs.Ytffppdcpiieapaa.Drivec Go.Proofs.Ytffppdcpiieapaa.Procc
set_option linter.unusedVariables false
set_option maxRecDepth 100000

end Go.Proofs.Ytffppdcpiieapaa.Machc

namespace Go.Proofs.Ytffppdcpiieapaa.Machc
open Go.RowKit Go.Proofs.Ytffppdcpiieapaa.Memc Go.Proofs.Ytffppdcpiieapaa.Newc
set_option linter.unusedVariables false
set_option maxRecDepth 100000

end Go.Proofs.Ytffppdcpiieapaa.Machc

namespace Go.Proofs.Ytffppdcpiieapaa.Machc
open Go.RowKit Go.Proofs.Ytffppdcpiieapaa.Memc Go.Proofs.Ytffppdcpiieapaa.Newc Go.Proofs.Ytffppdcpiieapaa.Drivec
set_option linter.unusedVariables false
set_option maxRecDepth 100000

end Go.Proofs.Ytffppdcpiieapaa.Machc
