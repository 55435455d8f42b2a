/- Rows of structs of the call's own: read, stored into, one more element appended. · A machine of one access, by contract: what begins it, what it asks for, and how it comes out. · A machine that goes through a call anew for each access: by contract, whatever the call is. · What a call asks its doer: by contract; and the words of the program. · Beginning a call of one access, by contract. · A region that draws its order, whose last operations write what others of it have read: a condition on the world that is asked no more once one of those has come up that wait for all readers. · A thread's next call is begun, by contract. -/
import Derived.Deep.RegionLaw
import Derived.BigRegion
import Derived.StillTail
import Derived.OrdersHeld
import Derived.Deep.RegionHeld3
import Derived.StillTailTactics
import Derived.Test.YtffppdcpiieapaaQ1
import Derived.Test.YtffppdcpiieapaaQ2
namespace Go.Proofs.Ytffppdcpiieapaa.Memc
open Go.RowKit
set_option linter.unusedVariables false
set_option maxRecDepth 100000

/-- the slice s owns its row of n elements of the type E, size cells each, which reads as the cells xs and lies from base on -/
def Row (w : World) (base : Nat) (E : TypeId) (size : Nat) (s : Sl) (n : Nat) (xs : List Value) : Prop := w.ownsRow base E size (.slice s.A s.n s.c) n xs
/-- the block of a slice -/
def bl (s : Sl) (g : Nat) : Prop := ∃ ad, s.A = some ad ∧ g = ad.block
section
variable {w w' : World} {base : Nat} {E : TypeId} {size : Nat} {s : Sl} {n : Nat} {xs : List Value}
theorem Row.n_ (h : Row w base E size s n xs) : s.n = n ∧ s.n ≤ s.c ∧ s.c ≤ maxLen ∧ xs.length = n * size := by
  rcases h.2 with ⟨hv, hn⟩ | ⟨g, cap, cur, hv, hb, hg, hnc, hcm, hsz, htk⟩
  · injection hv with h1 h2 h3
    exact ⟨by omega, by omega, by rw [h3]; exact Nat.zero_le _, h.1⟩
  · injection hv with h1 h2 h3
    exact ⟨h2, by omega, by omega, h.1⟩
theorem Row.lt (h : Row w base E size s n xs) {g : Nat} (hg : bl s g) : base ≤ g ∧ g < w.heap.size := by
  obtain ⟨ad, ha, rfl⟩ := hg
  exact World.ownsRow.lt h ad.block (by rw [ha]; rfl)
theorem Row.blk (h : Row w base E size s n xs) {g : Nat} (hg : bl s g) : ∃ cs, Blk w g E cs := by
  obtain ⟨ad, ha, rfl⟩ := hg
  rcases h.2 with ⟨hv, hn⟩ | ⟨g, cap, cur, hv, hb, hg, hr⟩
  · injection hv with h1
    rw [h1] at ha; cases ha
  · injection hv with h1
    rw [h1] at ha
    injection ha with ha
    subst ha
    exact ⟨cur, hg⟩
theorem Row.kept (h : Row w base E size s n xs) (hk : ∀ g, bl s g → w'.heap[g]? = w.heap[g]?) : Row w' base E size s n xs := by
  refine ⟨h.1, ?_⟩
  rcases h.2 with h1 | ⟨g, cap, cur, hv, hb, hg, hr⟩
  · exact .inl h1
  · refine .inr ⟨g, cap, cur, hv, hb, ?_, hr⟩
    injection hv with h1
    exact (hk g ⟨_, h1, rfl⟩).trans hg
theorem Row.alloc (h : Row w base E size s n xs) (o : Obj) : Row (w.alloc o) base E size s n xs := World.ownsRow.alloc h o
theorem Row.drew (h : Row w base E size s n xs) : Row w.drew base E size s n xs := h
theorem Row.drewN (h : Row w base E size s n xs) (k : Nat) : Row (w.drewN k) base E size s n xs := h
theorem Row.only {P : Nat → Prop} (h : Row w base E size s n xs) (ho : Only P w w') (hp : ∀ g, bl s g → ¬ P g) : Row w' base E size s n xs :=
  h.kept fun g hg => ho.block g (h.lt hg).2 (hp g hg)
theorem Row.below {B : Nat} (h : Row w base E size s n xs) (hb : Below B w w') (hB : w.heap.size ≤ B) : Row w' base E size s n xs :=
  h.kept fun g hg => hb.block g (by have := (h.lt hg).2; omega)
/-- a block of another type is none of the row's -/
theorem Row.ne (h : Row w base E size s n xs) {k : Nat} {t : TypeId} {cs : Array Value} (hk : Blk w k t cs) (hne : E ≠ t) : ∀ g, bl s g → g ≠ k := fun g hg => by
  obtain ⟨ds, hd⟩ := h.blk hg
  exact Blk.ne hd hk hne
theorem Row.ne_row {base' : Nat} {E' : TypeId} {size' : Nat} {s' : Sl} {n' : Nat} {xs' : List Value} (h : Row w base E size s n xs) (h' : Row w base' E' size' s' n' xs') (hne : E ≠ E') : ∀ g, bl s g → ∀ k, bl s' k → g ≠ k := fun g hg k hk => by
  obtain ⟨ds, hd⟩ := h'.blk hk
  exact h.ne hd hne g hg
theorem Row.at_ (h : Row w base E size s n xs) (hn : 0 < n) : ∃ g : Nat, s.A = some ⟨g, 0, none⟩ ∧ base ≤ g ∧ g < w.heap.size ∧ (∀ j, j < n * size → w.cell? ⟨g, j, none⟩ = xs[j]?) ∧ (∀ j, w.frozen? ⟨g, j, none⟩ = false) := by
  rcases h.2 with ⟨hv, h0⟩ | ⟨g, cap, cur, hv, hb, hg, hnc, hcm, hsz, htk⟩
  · omega
  · have ho : w.ownsRow base E size (.slice (some ⟨g, 0, none⟩) n cap) n xs := by rw [← hv]; exact h
    injection hv with h1 h2 h3
    exact ⟨g, h1, hb, (h.lt ⟨_, h1, rfl⟩).2, fun j hj => World.ownsRow.cellAt ho j hj, fun j => frozen_of_row w g j cur _ hg⟩
theorem Row.set_ (h : Row w base E size s n xs) {g : Nat} (hg : s.A = some ⟨g, 0, none⟩) (j : Nat) (v : Value) : Row (w.setCell ⟨g, j, none⟩ v) base E size s n (xs.set j v) := by
  have hn := h.n_.1
  have ho : w.ownsRow base E size (.slice (some ⟨g, 0, none⟩) n s.c) n xs := by
    have h' : w.ownsRow base E size (.slice s.A s.n s.c) n xs := h
    rw [hg, hn] at h'; exact h'
  have := (World.ownsRow.stored ho j v).1
  show World.ownsRow _ _ _ _ _ _ _
  rw [hg, hn]
  exact this
theorem row_sl {v : Value} (h : w.ownsRow base E size v n xs) : ∃ s : Sl, v = .slice s.A s.n s.c ∧ Row w base E size s n xs := by
  rcases h.2 with ⟨hv, _⟩ | ⟨g, cap, cur, hv, _⟩
  · exact ⟨⟨none, 0, 0⟩, hv, by rw [hv] at h; exact h⟩
  · exact ⟨⟨some ⟨g, 0, none⟩, n, cap⟩, hv, by rw [hv] at h; exact h⟩
theorem row_nil (w : World) (base : Nat) (E : TypeId) (size : Nat) : Row w base E size ⟨none, 0, 0⟩ 0 [] := World.ownsRow_nil w base E size
theorem Only.grown {P : Nat → Prop} {w0 : World} (h : Only P w0 w) (hg : w.grownBy w' (Value.slice s.A s.n s.c).ownBlock) (hp : ∀ g, bl s g → P g ∨ w0.heap.size ≤ g) : Only P w0 w' :=
  ⟨hg.os.trans h.os, hg.tape.trans h.tape, hg.output.trans h.output, Nat.le_trans h.size hg.size, fun k hk hn => by
    refine (hg.block k (Nat.lt_of_lt_of_le hk h.size) (fun e => ?_)).trans (h.block k hk hn)
    obtain ⟨A, m, c⟩ := s
    rcases A with _ | ad
    · cases e
    · injection e with e
      rcases hp k ⟨ad, rfl, e⟩ with hq | hq
      · exact hn hq
      · omega⟩
theorem only_grown (hg : w.grownBy w' (Value.slice s.A s.n s.c).ownBlock) : Only (bl s) w w' := (Only.refl _ _).grown hg fun g h => .inl h
end

/-- one more element -/
theorem wp_app1 {w : World} {o : Oper} {a : Act} {K : Act → World → Prop} {Q : Exit → Act → World → Prop} (x y : Operand) (t : TypeId) (ho : o.op = .call { callee := .builtin .append, args := #[x, y], argTypes := #[t, t] })
    (base : Nat) (E : TypeId) (i : TypeInfo) (z : Value) (size bytes : Nat) (ht : Try.prog.underlying t = some (.slice E)) (hi : Try.prog.info? E = some i) (hz : i.zero = some z) (hsize : i.size = size) (hby : i.bytes = bytes) (hzs : z.cells.size = size) (hsz : 0 < size)
    (s : Sl) (n : Nat) (xs : List Value) (hx : a.eval x = .slice s.A s.n s.c) (hown : Row w base E size s n xs) (gy : Nat) (news : List Value) (hy : a.eval y = .slice (some ⟨gy, 0, none⟩) 1 1) (hl : news.length = size)
    (hnews : ∀ j u, news[j]? = some u → w.cell? ⟨gy, j, none⟩ = some u) (h1 : ∀ u ∈ news, u.oneCell' = true) (h63 : n < 1000000) (hb1 : bytes ≤ 1000) (hb : base ≤ w.heap.size)
    (hk : ∀ s' w', Row w' base E size s' (n + 1) (xs ++ news) → Only (bl s) w w' → K (a.put o.dst (.slice s'.A s'.n s'.c)) w') : o.wp Try.prog a w K Q := by
  have hbb : (n + 1) * bytes ≤ 140737488355328 := Nat.le_trans (Nat.mul_le_mul (show n + 1 ≤ 1000000 by omega) hb1) (by omega)
  refine wp_append_own w x y t ho base E i z size bytes ht hi hz hsize hby hzs hsz _ n xs hx hown ⟨gy, 0, none⟩ 1 1 news hy (by omega) (fun j u hj => ?_) h1 (by unfold maxLen; omega) hbb hb fun v' w' h2 h3 _ => ?_
  · rw [Addr.add_lit]
    simpa using hnews j u hj
  · obtain ⟨s', rfl, hs'⟩ := row_sl h2
    exact hk s' w' hs' (only_grown h3)
theorem finding_cell : (Try.prog.info? 194).map (fun i => (i.zero, i.size, i.bytes)) = some (some (.agg #[.int .u64 0, .bool false]), 2, 16) := by kernel_rfl
end Go.Proofs.Ytffppdcpiieapaa.Memc

namespace Go.Proofs.Ytffppdcpiieapaa.Procc
open Go.RowKit Go.Proofs.Ytffppdcpiieapaa.Memc
set_option linter.unusedVariables false
set_option maxRecDepth 100000

/-- the machine in block P is just begun, it asks for a -/
def Fresh (w : World) (P ga : Nat) (a : Acc) : Prop := Blk w P 126 #[.func (.func 58) #[] #[.pointer (some ⟨ga, 0, none⟩)], .slice none 0 0, .bool false, .bool false, .int .i64 0, .int .u32 0] ∧ Blk w ga 57 #[.int .i64 a.d, .int .i64 a.ar, .int .i64 a.at_, .int .u64 a.old, .int .u64 a.new]
/-- it has asked -/
def Waits (w : World) (P ga : Nat) (a : Acc) : Prop := Blk w P 126 #[.func (.func 58) #[] #[.pointer (some ⟨ga, 0, none⟩)], .slice none 0 0, .bool true, .bool false, .int .i64 0, .int .u32 0] ∧ Blk w ga 57 #[.int .i64 a.d, .int .i64 a.ar, .int .i64 a.at_, .int .u64 a.old, .int .u64 a.new]
/-- it is over -/
def Over (w : World) (P : Nat) (cd ou : Int) : Prop := Blk w P 126 #[.nilFunc, .slice none 0 0, .bool false, .bool true, .int .i64 cd, .int .u32 ou]

theorem end_c (w : World) (P : Nat) (r f : Value) (ask ov : Bool) (cd ou : Int) (A : Option Addr) (n c : Nat) (run : Fn) (c1 c2 : Array Value) (hq : Blk w P 126 #[(.func run c1 c2), (.slice A n c), .bool ask, .bool ov, .int .i64 cd, .int .u32 ou]) :
    Calls Try.prog 147 #[.pointer (some ⟨P, 0, none⟩)] w fun e w' => e = .returned (.tuple #[]) ∧ Blk w' P 126 #[.nilFunc, .slice none 0 0, .bool ask, .bool true, .int .i64 cd, .int .u32 ou] ∧ Only (fun g => g = P) w w' := by
  have hcq := hq.cell
  have hfq := hq.frozen
  have hzq := hq.lt
  have HQ := Lib.hid hq
  clear hq
  go_enter Try.func147, Try.ntmps147
  go_wp2
  go_end0
  exact ⟨rfl, (by have h_ := (((HQ.out).set_ 3 (.bool true)).set_ 0 (.nilFunc)).set_ 1 (.slice none 0 0); simpa only [List.setIfInBounds_toArray, List.set_cons_zero, List.set_cons_succ] using h_), ((((Only.refl (fun g => g = P) w)).set_ ⟨P, 3, none⟩ (.inl rfl) _).set_ ⟨P, 0, none⟩ (.inl rfl) _).set_ ⟨P, 1, none⟩ (.inl rfl) _⟩

theorem result_c (w : World) (P : Nat) (cd ou : Int) (hq : Over w P cd ou) :
    Calls Try.prog 144 #[.pointer (some ⟨P, 0, none⟩)] w fun e w' => e = .returned (.tuple #[.int .i64 cd, .int .u32 ou]) ∧ ∃ n, w' = w.drewN n := by
  have hcq := Blk.cell hq
  clear hq
  go_enter Try.func144, Try.ntmps144
  go_wp2
  go_quiet (fail)
  go_wp2
  go_ret2
  exact ⟨rfl, _, rfl⟩

end Go.Proofs.Ytffppdcpiieapaa.Procc

namespace Go.Proofs.Ytffppdcpiieapaa.Procc
open Go.RowKit Go.Proofs.Ytffppdcpiieapaa.Memc
set_option linter.unusedVariables false
set_option maxRecDepth 100000

/-- what is next: an access, or how it came out -/
inductive Nx
  | ask (a : Acc)
  | fin (cd ou : Int)
/-- what is next, by what was found -/
def Pl : Type := List (Int × Bool) → Nx
def Going (p : Pl) (fs : List (Int × Bool)) : Prop := (∀ k, k < fs.length → ∃ a, p (fs.take k) = .ask a) ∧ ∀ x ∈ fs, 0 ≤ x.1 ∧ x.1 ≤ 18446744073709551615
def fcells (f : Int × Bool) : List Value := [.int .u64 f.1, .bool f.2]
def flatF (fs : List (Int × Bool)) : List Value := (fs.map fcells).flatten
/-- a block that a closure has caught -/
structure Cap1 where
  g : Nat
  t : TypeId
  v : Array Value
def Cap1.ptr (x : Cap1) : Value := .pointer (some ⟨x.g, 0, none⟩)
def Kept (w : World) (l : List Cap1) : Prop := ∀ x ∈ l, Blk w x.g x.t x.v
def AskD (w : World) (gn gm gx : Nat) (a : Acc) (e : Ending) (w' : World) : Prop :=
  e = .panicked [{ v := .iface 197 (.agg #[]), recovered := false }] ∧ Blk w' gm 4 #[.bool true] ∧ Blk w' gx 57 #[.int .i64 a.d, .int .i64 a.ar, .int .i64 a.at_, .int .u64 a.old, .int .u64 a.new] ∧ Only (fun k => k = gn ∨ k = gm ∨ k = gx) w w'
def FinD (w : World) (gn : Nat) (cd ou : Int) (e : Ending) (w' : World) : Prop := e = .returned (.tuple #[.int .i64 cd, .int .u32 ou]) ∧ Only (fun g => g = gn) w w'
/-- the closure F, with the blocks l caught, does what p tells -/
def Enters (F : Nat) : Prop := ∀ (args : Array Value) (w : World), (callFunc F args).run Try.prog w = .ok (.enter F args) w
theorem upon_func {F : Nat} (hE : Enters F) {o : Oper} {a : Act} {next : Act → World → Prop} {Q : Exit → Act → World → Prop} {args : Array Value} {w : World} {R : Ending → World → Prop} (h : Calls Try.prog F args w R)
    (hk : ∀ e w', R e w' → (match (generalizing := false) e, w' with
      | .returned v, w'' => next (a.put o.dst v) w''
      | .panicked chain, w'' => Q (.panic chain) a w''
      | .outgrown, _ => LetsOut Q)) : Oper.upon Try.prog o a next Q ((callFunc F args).run Try.prog w) := by
  rw [hE args w]
  exact h.mono hk
def Meets (F : Nat) (l : List Cap1) (p : Pl) : Prop :=
  Enters F ∧ ∀ (w : World) (base gn gp gm gx P : Nat) (s : Sl) (fs : List (Int × Bool)) (ask ov : Bool) (cd ou : Int),
    Blk w gn 3 #[.int .i64 0] → Blk w gp 123 #[.pointer (some ⟨P, 0, none⟩)] → Blk w gm 4 #[.bool false] → Blk w gx 57 #[.int .i64 0, .int .i64 0, .int .i64 0, .int .u64 0, .int .u64 0] → Blk w P 126 #[.func (.func F) #[] (l.map Cap1.ptr).toArray, .slice s.A s.n s.c, .bool ask, .bool ov, .int .i64 cd, .int .u32 ou] →
    Row w base 194 2 s fs.length (flatF fs) → fs.length ≤ 100000 → Going p fs → Kept w l → (∀ x ∈ l, x.g < gn ∧ x.g < gm ∧ x.g < gx) →
    (∀ a, p fs = .ask a → Calls Try.prog F (#[.func (.func 149) #[] #[.pointer (some ⟨gn, 0, none⟩), .pointer (some ⟨gp, 0, none⟩), .pointer (some ⟨gm, 0, none⟩), .pointer (some ⟨gx, 0, none⟩)]] ++ (l.map Cap1.ptr).toArray) w (AskD w gn gm gx a)) ∧
    (∀ cd' ou', p fs = .fin cd' ou' → Calls Try.prog F (#[.func (.func 149) #[] #[.pointer (some ⟨gn, 0, none⟩), .pointer (some ⟨gp, 0, none⟩), .pointer (some ⟨gm, 0, none⟩), .pointer (some ⟨gx, 0, none⟩)]] ++ (l.map Cap1.ptr).toArray) w (FinD w gn cd' ou'))

set_option maxHeartbeats 2000000 in
theorem throughg_ask (w : World) (base P F : Nat) (cs : Array Value) (l : List Cap1) (p : Pl) (s : Sl) (fs : List (Int × Bool)) (a : Acc) (ask ov : Bool) (cd ou : Int) (hcs : cs = (l.map Cap1.ptr).toArray) (hme : Meets F l p) (hq : Blk w P 126 #[.func (.func F) #[] cs, .slice s.A s.n s.c, .bool ask, .bool ov, .int .i64 cd, .int .u32 ou]) (hr : Row w base 194 2 s fs.length (flatF fs)) (hk : Kept w l) (hn : fs.length ≤ 100000) (hg : Going p fs) (hpf : p fs = .ask a) :
    Calls Try.prog 146 #[.pointer (some ⟨P, 0, none⟩)] w (Thru w P (.func (.func F) #[] cs) s.A s.n s.c ask ov cd ou cd ou #[.int .i64 a.d, .int .i64 a.ar, .int .i64 a.at_, .int .u64 a.old, .int .u64 a.new] true) := by
  have hmf : ∀ (fn : Fn) (first cap : Array Value) (w : World), (Instr.makeFunc fn first cap).run Try.prog w = .ok (.func fn first cap) w := fun _ _ _ _ => rfl
  have hcq := hq.cell
  have hfq := hq.frozen
  have hzq := hq.lt
  have HQ := Lib.hid hq
  have HR := Lib.hid hr
  have HL := Lib.hid hk
  have HG := Lib.hid hg
  have HME := Lib.hid hme
  have HCS := Lib.hid hcs
  have HPF := Lib.hid hpf
  clear hq hr hk hg hme hcs hpf
  have hq1 : P < w.heap.size + 1 := by omega
  have hq2 : P < w.heap.size + 1 + 1 := by omega
  have hq3 : P < w.heap.size + 1 + 1 + 1 := by omega
  go_enter_defers Try.func146, Try.ntmps146
  go_wp2_with fail
  have BP : Hid (Blk ((((w.alloc (.cells #[.pointer (some ⟨P, 0, none⟩)] 123)).alloc (.cells #[.int .i64 0, .int .i64 0, .int .i64 0, .int .u64 0, .int .u64 0] 57)).alloc (.cells #[.bool false] 4)).alloc (.cells #[.int .i64 0] 3)) w.heap.size 123 #[.pointer (some ⟨P, 0, none⟩)]) := Lib.hid ((((Blk.new _ _ _).alloc _).alloc _).alloc _)
  have BX : Hid (Blk ((((w.alloc (.cells #[.pointer (some ⟨P, 0, none⟩)] 123)).alloc (.cells #[.int .i64 0, .int .i64 0, .int .i64 0, .int .u64 0, .int .u64 0] 57)).alloc (.cells #[.bool false] 4)).alloc (.cells #[.int .i64 0] 3)) (w.heap.size + 1) 57 #[.int .i64 0, .int .i64 0, .int .i64 0, .int .u64 0, .int .u64 0]) := Lib.hid (((blk_at (by simp)).alloc _).alloc _)
  have BM : Hid (Blk ((((w.alloc (.cells #[.pointer (some ⟨P, 0, none⟩)] 123)).alloc (.cells #[.int .i64 0, .int .i64 0, .int .i64 0, .int .u64 0, .int .u64 0] 57)).alloc (.cells #[.bool false] 4)).alloc (.cells #[.int .i64 0] 3)) (w.heap.size + 1 + 1) 4 #[.bool false]) := Lib.hid ((blk_at (by simp)).alloc _)
  have BN : Hid (Blk ((((w.alloc (.cells #[.pointer (some ⟨P, 0, none⟩)] 123)).alloc (.cells #[.int .i64 0, .int .i64 0, .int .i64 0, .int .u64 0, .int .u64 0] 57)).alloc (.cells #[.bool false] 4)).alloc (.cells #[.int .i64 0] 3)) (w.heap.size + 1 + 1 + 1) 3 #[.int .i64 0]) := Lib.hid (blk_at (by simp))
  have BQ := Lib.hid ((((HQ.out.alloc (.cells #[.pointer (some ⟨P, 0, none⟩)] 123)).alloc (.cells #[.int .i64 0, .int .i64 0, .int .i64 0, .int .u64 0, .int .u64 0] 57)).alloc (.cells #[.bool false] 4)).alloc (.cells #[.int .i64 0] 3))
  have OV : Hid (Only (fun g => g = P) w ((((w.alloc (.cells #[.pointer (some ⟨P, 0, none⟩)] 123)).alloc (.cells #[.int .i64 0, .int .i64 0, .int .i64 0, .int .u64 0, .int .u64 0] 57)).alloc (.cells #[.bool false] 4)).alloc (.cells #[.int .i64 0] 3))) := Lib.hid (((((Only.refl _ _).alloc _).alloc _).alloc _).alloc _)
  have BR := Lib.hid ((((HR.out.alloc (.cells #[.pointer (some ⟨P, 0, none⟩)] 123)).alloc (.cells #[.int .i64 0, .int .i64 0, .int .i64 0, .int .u64 0, .int .u64 0] 57)).alloc (.cells #[.bool false] 4)).alloc (.cells #[.int .i64 0] 3))
  have BL : Hid (Kept ((((w.alloc (.cells #[.pointer (some ⟨P, 0, none⟩)] 123)).alloc (.cells #[.int .i64 0, .int .i64 0, .int .i64 0, .int .u64 0, .int .u64 0] 57)).alloc (.cells #[.bool false] 4)).alloc (.cells #[.int .i64 0] 3)) l) := Lib.hid (fun x hx => ((((HL.out x hx).alloc (.cells #[.pointer (some ⟨P, 0, none⟩)] 123)).alloc (.cells #[.int .i64 0, .int .i64 0, .int .i64 0, .int .u64 0, .int .u64 0] 57)).alloc (.cells #[.bool false] 4)).alloc (.cells #[.int .i64 0] 3))
  have LL : Hid (∀ x ∈ l, x.g < w.heap.size) := Lib.hid (fun x hx => (HL.out x hx).lt)
  generalize ((((w.alloc (.cells #[.pointer (some ⟨P, 0, none⟩)] 123)).alloc (.cells #[.int .i64 0, .int .i64 0, .int .i64 0, .int .u64 0, .int .u64 0] 57)).alloc (.cells #[.bool false] 4)).alloc (.cells #[.int .i64 0] 3)) = V at BP BX BM BN BQ BR BL OV ⊢
  have hm0 := HME.out.2 V base _ _ _ _ P s fs ask ov cd ou BN.out BP.out BM.out BX.out (by rw [HCS.out] at BQ; exact BQ.out) BR.out hn HG.out BL.out (fun x hx => by have := LL.out x hx; omega)
  rw [← HCS.out] at hm0
  refine upon_func HME.out.1 (hm0.1 a HPF.out) ?_
  rintro e w1 ⟨rfl, hm1, hx1, ho1⟩
  have M1 := Lib.hid hm1
  have X1 := Lib.hid hx1
  have O1 := Lib.hid ho1
  clear hm1 hx1 ho1 hm0
  go_wp2
  refine leaves_cons (f := 148) (args := #[.pointer (some ⟨w.heap.size + 1 + 1, 0, none⟩), .pointer (some ⟨w.heap.size, 0, none⟩)]) (by simp) (by simp [go_sem]) ?_
  refine (catch_asked _ _ _ _ [] _ M1.out).mono ?_
  rintro e u' w'' ⟨rfl, rfl, rfl⟩
  have hcm := M1.out.cell
  have hcx := X1.out.cell
  have hth : Thru w P (.func (.func F) #[] cs) s.A s.n s.c ask ov cd ou cd ou #[.int .i64 a.d, .int .i64 a.ar, .int .i64 a.at_, .int .u64 a.old, .int .u64 a.new] true (.returned (.tuple #[.agg #[.int .i64 a.d, .int .i64 a.ar, .int .i64 a.at_, .int .u64 a.old, .int .u64 a.new], .bool true])) w'' :=
    ⟨rfl, BQ.out.only O1.out (by omega), OV.out.next O1.out (fun k hk hg => by omega)⟩
  have HTH := Lib.hid hth
  clear hth
  simp [Leaves, settle, results, Try.results146, go_sem, hcm, hcx]
  exact HTH.out

set_option maxHeartbeats 4000000 in
theorem throughg_fin (w : World) (base P F : Nat) (cs : Array Value) (l : List Cap1) (p : Pl) (s : Sl) (fs : List (Int × Bool)) (ask ov : Bool) (cd ou cd2 ou2 : Int) (hcs : cs = (l.map Cap1.ptr).toArray) (hme : Meets F l p) (hq : Blk w P 126 #[.func (.func F) #[] cs, .slice s.A s.n s.c, .bool ask, .bool ov, .int .i64 cd, .int .u32 ou]) (hr : Row w base 194 2 s fs.length (flatF fs)) (hk : Kept w l) (hn : fs.length ≤ 100000) (hg : Going p fs) (hpf : p fs = .fin cd2 ou2) :
    Calls Try.prog 146 #[.pointer (some ⟨P, 0, none⟩)] w (Thru w P (.func (.func F) #[] cs) s.A s.n s.c ask ov cd ou cd2 ou2 #[.int .i64 0, .int .i64 0, .int .i64 0, .int .u64 0, .int .u64 0] false) := by
  have hmf : ∀ (fn : Fn) (first cap : Array Value) (w : World), (Instr.makeFunc fn first cap).run Try.prog w = .ok (.func fn first cap) w := fun _ _ _ _ => rfl
  have hcq := hq.cell
  have hfq := hq.frozen
  have hzq := hq.lt
  have HQ := Lib.hid hq
  have HR := Lib.hid hr
  have HL := Lib.hid hk
  have HG := Lib.hid hg
  have HME := Lib.hid hme
  have HCS := Lib.hid hcs
  have HPF := Lib.hid hpf
  clear hq hr hk hg hme hcs hpf
  have hq1 : P < w.heap.size + 1 := by omega
  have hq2 : P < w.heap.size + 1 + 1 := by omega
  have hq3 : P < w.heap.size + 1 + 1 + 1 := by omega
  go_enter_defers Try.func146, Try.ntmps146
  go_wp2_with fail
  have BP : Hid (Blk ((((w.alloc (.cells #[.pointer (some ⟨P, 0, none⟩)] 123)).alloc (.cells #[.int .i64 0, .int .i64 0, .int .i64 0, .int .u64 0, .int .u64 0] 57)).alloc (.cells #[.bool false] 4)).alloc (.cells #[.int .i64 0] 3)) w.heap.size 123 #[.pointer (some ⟨P, 0, none⟩)]) := Lib.hid ((((Blk.new _ _ _).alloc _).alloc _).alloc _)
  have BX : Hid (Blk ((((w.alloc (.cells #[.pointer (some ⟨P, 0, none⟩)] 123)).alloc (.cells #[.int .i64 0, .int .i64 0, .int .i64 0, .int .u64 0, .int .u64 0] 57)).alloc (.cells #[.bool false] 4)).alloc (.cells #[.int .i64 0] 3)) (w.heap.size + 1) 57 #[.int .i64 0, .int .i64 0, .int .i64 0, .int .u64 0, .int .u64 0]) := Lib.hid (((blk_at (by simp)).alloc _).alloc _)
  have BM : Hid (Blk ((((w.alloc (.cells #[.pointer (some ⟨P, 0, none⟩)] 123)).alloc (.cells #[.int .i64 0, .int .i64 0, .int .i64 0, .int .u64 0, .int .u64 0] 57)).alloc (.cells #[.bool false] 4)).alloc (.cells #[.int .i64 0] 3)) (w.heap.size + 1 + 1) 4 #[.bool false]) := Lib.hid ((blk_at (by simp)).alloc _)
  have BN : Hid (Blk ((((w.alloc (.cells #[.pointer (some ⟨P, 0, none⟩)] 123)).alloc (.cells #[.int .i64 0, .int .i64 0, .int .i64 0, .int .u64 0, .int .u64 0] 57)).alloc (.cells #[.bool false] 4)).alloc (.cells #[.int .i64 0] 3)) (w.heap.size + 1 + 1 + 1) 3 #[.int .i64 0]) := Lib.hid (blk_at (by simp))
  have BQ := Lib.hid ((((HQ.out.alloc (.cells #[.pointer (some ⟨P, 0, none⟩)] 123)).alloc (.cells #[.int .i64 0, .int .i64 0, .int .i64 0, .int .u64 0, .int .u64 0] 57)).alloc (.cells #[.bool false] 4)).alloc (.cells #[.int .i64 0] 3))
  have OV : Hid (Only (fun g => g = P) w ((((w.alloc (.cells #[.pointer (some ⟨P, 0, none⟩)] 123)).alloc (.cells #[.int .i64 0, .int .i64 0, .int .i64 0, .int .u64 0, .int .u64 0] 57)).alloc (.cells #[.bool false] 4)).alloc (.cells #[.int .i64 0] 3))) := Lib.hid (((((Only.refl _ _).alloc _).alloc _).alloc _).alloc _)
  have BR := Lib.hid ((((HR.out.alloc (.cells #[.pointer (some ⟨P, 0, none⟩)] 123)).alloc (.cells #[.int .i64 0, .int .i64 0, .int .i64 0, .int .u64 0, .int .u64 0] 57)).alloc (.cells #[.bool false] 4)).alloc (.cells #[.int .i64 0] 3))
  have BL : Hid (Kept ((((w.alloc (.cells #[.pointer (some ⟨P, 0, none⟩)] 123)).alloc (.cells #[.int .i64 0, .int .i64 0, .int .i64 0, .int .u64 0, .int .u64 0] 57)).alloc (.cells #[.bool false] 4)).alloc (.cells #[.int .i64 0] 3)) l) := Lib.hid (fun x hx => ((((HL.out x hx).alloc (.cells #[.pointer (some ⟨P, 0, none⟩)] 123)).alloc (.cells #[.int .i64 0, .int .i64 0, .int .i64 0, .int .u64 0, .int .u64 0] 57)).alloc (.cells #[.bool false] 4)).alloc (.cells #[.int .i64 0] 3))
  have LL : Hid (∀ x ∈ l, x.g < w.heap.size) := Lib.hid (fun x hx => (HL.out x hx).lt)
  generalize ((((w.alloc (.cells #[.pointer (some ⟨P, 0, none⟩)] 123)).alloc (.cells #[.int .i64 0, .int .i64 0, .int .i64 0, .int .u64 0, .int .u64 0] 57)).alloc (.cells #[.bool false] 4)).alloc (.cells #[.int .i64 0] 3)) = V at BP BX BM BN BQ BR BL OV ⊢
  have hm0 := HME.out.2 V base _ _ _ _ P s fs ask ov cd ou BN.out BP.out BM.out BX.out (by rw [HCS.out] at BQ; exact BQ.out) BR.out hn HG.out BL.out (fun x hx => by have := LL.out x hx; omega)
  rw [← HCS.out] at hm0
  refine upon_func HME.out.1 (hm0.2 cd2 ou2 HPF.out) ?_
  rintro e w1 ⟨rfl, ho1⟩
  clear hm0
  have O1 := Lib.hid ho1
  have Q1 := Lib.hid (BQ.out.only ho1 (by omega))
  have X1 := Lib.hid (BX.out.only ho1 (by omega))
  have M1 := Lib.hid (BM.out.only ho1 (by omega))
  have P1 := Lib.hid (BP.out.only ho1 (by omega))
  have hxq := Q1.out.cell
  have hxqf := Q1.out.frozen
  have hxx := X1.out.cell
  have hxxf := X1.out.frozen
  have hxm := M1.out.cell
  have hxmf := M1.out.frozen
  have hxp := P1.out.cell
  have n1 : ¬ P = w.heap.size := by omega
  have n2 : ¬ P = w.heap.size + 1 := by omega
  have n3 : ¬ P = w.heap.size + 1 + 1 := by omega
  clear ho1 hcq hfq
  go_wp2
  go_region
  all_goals
    go_wp2
    go_region
    all_goals
      go_wp2
      have MM : Hid (Blk ((((((((((w1.setCell ⟨P, 4, none⟩ (.int .i64 cd2)).setCell ⟨P, 5, none⟩ (.int .u32 ou2)).setCell ⟨(w.heap.size + 1), 0, none⟩ (.int .i64 0)).setCell ⟨(w.heap.size + 1), 1, none⟩ (.int .i64 0)).setCell ⟨(w.heap.size + 1), 2, none⟩ (.int .i64 0)).setCell ⟨(w.heap.size + 1), 3, none⟩ (.int .u64 0)).setCell ⟨(w.heap.size + 1), 4, none⟩ (.int .u64 0)).setCell ⟨(w.heap.size + 1 + 1), 0, none⟩ (.bool false)).drew).drew) (w.heap.size + 1 + 1) 4 #[.bool false]) := Lib.hid (by have h_ := ((((((((((M1.out).far (p := ⟨P, 4, none⟩) (show ¬ (w.heap.size + 1 + 1) = P by omega) (.int .i64 cd2)).far (p := ⟨P, 5, none⟩) (show ¬ (w.heap.size + 1 + 1) = P by omega) (.int .u32 ou2)).far (p := ⟨(w.heap.size + 1), 0, none⟩) (show ¬ (w.heap.size + 1 + 1) = (w.heap.size + 1) by omega) (.int .i64 0)).far (p := ⟨(w.heap.size + 1), 1, none⟩) (show ¬ (w.heap.size + 1 + 1) = (w.heap.size + 1) by omega) (.int .i64 0)).far (p := ⟨(w.heap.size + 1), 2, none⟩) (show ¬ (w.heap.size + 1 + 1) = (w.heap.size + 1) by omega) (.int .i64 0)).far (p := ⟨(w.heap.size + 1), 3, none⟩) (show ¬ (w.heap.size + 1 + 1) = (w.heap.size + 1) by omega) (.int .u64 0)).far (p := ⟨(w.heap.size + 1), 4, none⟩) (show ¬ (w.heap.size + 1 + 1) = (w.heap.size + 1) by omega) (.int .u64 0)).set_ 0 (.bool false)).drew).drew; simpa only [List.setIfInBounds_toArray, List.set_cons_zero, List.set_cons_succ] using h_)
      have XX : Hid (Blk ((((((((((w1.setCell ⟨P, 4, none⟩ (.int .i64 cd2)).setCell ⟨P, 5, none⟩ (.int .u32 ou2)).setCell ⟨(w.heap.size + 1), 0, none⟩ (.int .i64 0)).setCell ⟨(w.heap.size + 1), 1, none⟩ (.int .i64 0)).setCell ⟨(w.heap.size + 1), 2, none⟩ (.int .i64 0)).setCell ⟨(w.heap.size + 1), 3, none⟩ (.int .u64 0)).setCell ⟨(w.heap.size + 1), 4, none⟩ (.int .u64 0)).setCell ⟨(w.heap.size + 1 + 1), 0, none⟩ (.bool false)).drew).drew) (w.heap.size + 1) 57 #[.int .i64 0, .int .i64 0, .int .i64 0, .int .u64 0, .int .u64 0]) := Lib.hid (by have h_ := ((((((((((X1.out).far (p := ⟨P, 4, none⟩) (show ¬ (w.heap.size + 1) = P by omega) (.int .i64 cd2)).far (p := ⟨P, 5, none⟩) (show ¬ (w.heap.size + 1) = P by omega) (.int .u32 ou2)).set_ 0 (.int .i64 0)).set_ 1 (.int .i64 0)).set_ 2 (.int .i64 0)).set_ 3 (.int .u64 0)).set_ 4 (.int .u64 0)).far (p := ⟨(w.heap.size + 1 + 1), 0, none⟩) (show ¬ (w.heap.size + 1) = (w.heap.size + 1 + 1) by omega) (.bool false)).drew).drew; simpa only [List.setIfInBounds_toArray, List.set_cons_zero, List.set_cons_succ] using h_)
      have QQ : Hid (Blk ((((((((((w1.setCell ⟨P, 4, none⟩ (.int .i64 cd2)).setCell ⟨P, 5, none⟩ (.int .u32 ou2)).setCell ⟨(w.heap.size + 1), 0, none⟩ (.int .i64 0)).setCell ⟨(w.heap.size + 1), 1, none⟩ (.int .i64 0)).setCell ⟨(w.heap.size + 1), 2, none⟩ (.int .i64 0)).setCell ⟨(w.heap.size + 1), 3, none⟩ (.int .u64 0)).setCell ⟨(w.heap.size + 1), 4, none⟩ (.int .u64 0)).setCell ⟨(w.heap.size + 1 + 1), 0, none⟩ (.bool false)).drew).drew) P 126 #[.func (.func F) #[] cs, .slice s.A s.n s.c, .bool ask, .bool ov, .int .i64 cd2, .int .u32 ou2]) := Lib.hid (by have h_ := ((((((((((Q1.out).set_ 4 (.int .i64 cd2)).set_ 5 (.int .u32 ou2)).far (p := ⟨(w.heap.size + 1), 0, none⟩) (show ¬ P = (w.heap.size + 1) by omega) (.int .i64 0)).far (p := ⟨(w.heap.size + 1), 1, none⟩) (show ¬ P = (w.heap.size + 1) by omega) (.int .i64 0)).far (p := ⟨(w.heap.size + 1), 2, none⟩) (show ¬ P = (w.heap.size + 1) by omega) (.int .i64 0)).far (p := ⟨(w.heap.size + 1), 3, none⟩) (show ¬ P = (w.heap.size + 1) by omega) (.int .u64 0)).far (p := ⟨(w.heap.size + 1), 4, none⟩) (show ¬ P = (w.heap.size + 1) by omega) (.int .u64 0)).far (p := ⟨(w.heap.size + 1 + 1), 0, none⟩) (show ¬ P = (w.heap.size + 1 + 1) by omega) (.bool false)).drew).drew; simpa only [List.setIfInBounds_toArray, List.set_cons_zero, List.set_cons_succ] using h_)
      have OO : Hid (Only (fun g => g = P) w ((((((((((w1.setCell ⟨P, 4, none⟩ (.int .i64 cd2)).setCell ⟨P, 5, none⟩ (.int .u32 ou2)).setCell ⟨(w.heap.size + 1), 0, none⟩ (.int .i64 0)).setCell ⟨(w.heap.size + 1), 1, none⟩ (.int .i64 0)).setCell ⟨(w.heap.size + 1), 2, none⟩ (.int .i64 0)).setCell ⟨(w.heap.size + 1), 3, none⟩ (.int .u64 0)).setCell ⟨(w.heap.size + 1), 4, none⟩ (.int .u64 0)).setCell ⟨(w.heap.size + 1 + 1), 0, none⟩ (.bool false)).drew).drew)) := Lib.hid ((((((((((((OV.out.next O1.out (fun k hk hg => by omega))).set_ ⟨P, 4, none⟩ (.inl rfl) _).set_ ⟨P, 5, none⟩ (.inl rfl) _).set_ ⟨(w.heap.size + 1), 0, none⟩ (.inr (by simp)) _).set_ ⟨(w.heap.size + 1), 1, none⟩ (.inr (by simp)) _).set_ ⟨(w.heap.size + 1), 2, none⟩ (.inr (by simp)) _).set_ ⟨(w.heap.size + 1), 3, none⟩ (.inr (by simp)) _).set_ ⟨(w.heap.size + 1), 4, none⟩ (.inr (by simp)) _).set_ ⟨(w.heap.size + 1 + 1), 0, none⟩ (.inr (by simp; omega)) _).drew).drew)
      generalize ((((((((((w1.setCell ⟨P, 4, none⟩ (.int .i64 cd2)).setCell ⟨P, 5, none⟩ (.int .u32 ou2)).setCell ⟨(w.heap.size + 1), 0, none⟩ (.int .i64 0)).setCell ⟨(w.heap.size + 1), 1, none⟩ (.int .i64 0)).setCell ⟨(w.heap.size + 1), 2, none⟩ (.int .i64 0)).setCell ⟨(w.heap.size + 1), 3, none⟩ (.int .u64 0)).setCell ⟨(w.heap.size + 1), 4, none⟩ (.int .u64 0)).setCell ⟨(w.heap.size + 1 + 1), 0, none⟩ (.bool false)).drew).drew) = W5 at MM XX QQ OO ⊢
      refine leaves_cons (f := 148) (args := #[.pointer (some ⟨(w.heap.size + 1 + 1), 0, none⟩), .pointer (some ⟨w.heap.size, 0, none⟩)]) (by simp) (by simp [go_sem]) ?_
      refine (catch_idle _ _ _).mono ?_
      rintro e u' w'' ⟨rfl, rfl, rfl⟩
      have hcm := MM.out.cell
      have hcx := XX.out.cell
      have hth : Thru w P (.func (.func F) #[] cs) s.A s.n s.c ask ov cd ou cd2 ou2 #[.int .i64 0, .int .i64 0, .int .i64 0, .int .u64 0, .int .u64 0] false (.returned (.tuple #[.agg #[.int .i64 0, .int .i64 0, .int .i64 0, .int .u64 0, .int .u64 0], .bool false])) w'' := ⟨rfl, QQ.out, OO.out⟩
      have HTH := Lib.hid hth
      clear hth
      simp [Leaves, settle, results, Try.results146, go_sem, hcm, hcx]
      exact HTH.out
end Go.Proofs.Ytffppdcpiieapaa.Procc

namespace Go.Proofs.Ytffppdcpiieapaa.Wordc
open Go.RowKit
set_option linter.unusedVariables false
set_option maxRecDepth 100000
theorem half64_c (x : Int) (w : World) (x0 : 0 ≤ x) (x1 : x ≤ 18446744073709551615) :
    Calls Try.prog 113 #[.int .u64 x] w fun e w' => e = .returned (.int .u32 (x % 4294967296)) ∧ w = w' := by
  go_enter Try.func113, Try.ntmps113
  go_wp2
  go_ret
  exact ⟨rfl, rfl⟩
theorem high_c (x : Int) (w : World) (x0 : 0 ≤ x) (x1 : x ≤ 18446744073709551615) :
    Calls Try.prog 79 #[.int .u64 x] w fun e w' => e = .returned (.int .u32 (x / 4294967296)) ∧ w = w' := by
  go_enter Try.func79, Try.ntmps79
  go_wp2_with (go_at_call 113; refine (half64_c _ _ (by omega) (by omega)).mono ?_; rintro e w' ⟨rfl, rfl⟩)
  go_ret
  exact ⟨ret_int (by show _ % 4294967296 = _; omega), rfl⟩
theorem low_c (x : Int) (w : World) (x0 : 0 ≤ x) (x1 : x ≤ 18446744073709551615) :
    Calls Try.prog 66 #[.int .u64 x] w fun e w' => e = .returned (.int .u32 (x % 4294967296)) ∧ w = w' := by
  go_enter Try.func66, Try.ntmps66
  go_wp2_with (go_at_call 113; refine (half64_c _ _ (by omega) (by omega)).mono ?_; rintro e w' ⟨rfl, rfl⟩)
  go_ret
  exact ⟨rfl, rfl⟩
theorem handle_c (x : Int) (w : World) (x0 : 0 ≤ x) (x1 : x ≤ 18446744073709551615) :
    Calls Try.prog 67 #[.int .u64 x] w fun e w' => e = .returned (.int .i64 (x % 4294967296 - 1)) ∧ w = w' := by
  go_enter Try.func67, Try.ntmps67
  go_wp2_with (go_at_call 66; refine (low_c _ _ (by omega) (by omega)).mono ?_; rintro e w' ⟨rfl, rfl⟩)
  go_ret
  exact ⟨rfl, rfl⟩
end Go.Proofs.Ytffppdcpiieapaa.Wordc
namespace Go.Proofs.Ytffppdcpiieapaa.Procc
open Go.RowKit Go.Proofs.Ytffppdcpiieapaa.Memc
set_option linter.unusedVariables false
set_option maxRecDepth 100000
/-- where a call's doer is: k of what was found is told -/
structure Env (W : World) (base gn gp gm gx P k : Nat) (run : Value) (s : Sl) (fs : List (Int × Bool)) (ask ov : Bool) (cd ou : Int) : Prop where
  hn : Blk W gn 3 #[.int .i64 k]
  hp : Blk W gp 123 #[.pointer (some ⟨P, 0, none⟩)]
  hm : Blk W gm 4 #[.bool false]
  hx : Blk W gx 57 #[.int .i64 0, .int .i64 0, .int .i64 0, .int .u64 0, .int .u64 0]
  hq : Blk W P 126 #[run, .slice s.A s.n s.c, .bool ask, .bool ov, .int .i64 cd, .int .u32 ou]
  hf : Row W base 194 2 s fs.length (flatF fs)
  hl : fs.length ≤ 100000
  hk : k ≤ fs.length
section
variable {W : World} {base gn gp gm gx P k : Nat} {run : Value} {s : Sl} {fs : List (Int × Bool)} {ask ov : Bool} {cd ou : Int}
theorem flatF_get : ∀ (fs : List (Int × Bool)) (i : Nat) (x : Int × Bool) (j : Nat) (v : Value), fs[i]? = some x → (fcells x)[j]? = some v → (flatF fs)[i * 2 + j]? = some v
  | [], i, x, j, v, h, _ => by simp at h
  | y :: l, 0, x, j, v, h, hv => by
    injection h with h
    subst h
    have hj : j < (fcells y).length := (List.getElem?_eq_some_iff.1 hv).1
    show (fcells y ++ flatF l)[0 * 2 + j]? = some v
    rw [Nat.zero_mul, Nat.zero_add, List.getElem?_append_left hj]
    exact hv
  | y :: l, i + 1, x, j, v, h, hv => by
    have := flatF_get l i x j v h hv
    show (fcells y ++ flatF l)[(i + 1) * 2 + j]? = some v
    have h7 : (fcells y).length = 2 := rfl
    rw [List.getElem?_append_right (by omega), h7, show (i + 1) * 2 + j - 2 = i * 2 + j by omega]
    exact this
theorem Env.asks (h : Env W base gn gp gm gx P k run s fs ask ov cd ou) (hk : k = fs.length) (a : Acc) :
    Calls Try.prog 149 #[.agg #[.int .i64 a.d, .int .i64 a.ar, .int .i64 a.at_, .int .u64 a.old, .int .u64 a.new], .pointer (some ⟨gn, 0, none⟩), .pointer (some ⟨gp, 0, none⟩), .pointer (some ⟨gm, 0, none⟩), .pointer (some ⟨gx, 0, none⟩)] W (Asked W gm gx a) := by
  have hs := h.hf.n_.1
  have hn := h.hn
  rw [hk, ← hs] at hn
  exact do_ask W gn gp gm gx P run s.A s.n s.c a ask ov cd ou hn h.hp h.hm h.hx h.hq
theorem Env.tells (h : Env W base gn gp gm gx P k run s fs ask ov cd ou) {x : Int × Bool} (hx : fs[k]? = some x) (a : Acc) :
    Calls Try.prog 149 #[.agg #[.int .i64 a.d, .int .i64 a.ar, .int .i64 a.at_, .int .u64 a.old, .int .u64 a.new], .pointer (some ⟨gn, 0, none⟩), .pointer (some ⟨gp, 0, none⟩), .pointer (some ⟨gm, 0, none⟩), .pointer (some ⟨gx, 0, none⟩)] W fun e w' => e = .returned (.tuple #[.int .u64 x.1, .bool x.2]) ∧ Env w' base gn gp gm gx P (k + 1) run s fs ask ov cd ou ∧ Only (fun g => g = gn) W w' := by
  have hlt := (List.getElem?_eq_some_iff.1 hx).1
  have hs := h.hf.n_
  obtain ⟨g, hA, _, hg, hc, _⟩ := h.hf.at_ (by omega)
  have hq := h.hq
  have hne := h.hf.ne h.hn (by decide) g ⟨_, hA, rfl⟩
  rw [hA] at hq
  have h1 : W.cell? ⟨g, 0 + k * 2, none⟩ = some (.int .u64 x.1) := by
    rw [Nat.zero_add]
    exact (hc (k * 2) (by omega)).trans (flatF_get fs k x 0 _ hx rfl)
  have h2 : W.cell? ⟨g, 0 + k * 2 + 1, none⟩ = some (.bool x.2) := by
    rw [Nat.zero_add]
    exact (hc (k * 2 + 1) (by omega)).trans (flatF_get fs k x 1 _ hx rfl)
  refine (do_tell W gn gp gm gx P run g 0 s.n s.c k a ask ov false cd ou x.1 x.2 h.hn h.hp hq (by omega) (Nat.le_trans hs.2.1 hs.2.2.1) h1 h2 hne).mono ?_
  rintro e w' ⟨he, hn', ho⟩
  refine ⟨he, ⟨by have e1 : ((k + 1 : Nat) : Int) = (k : Int) + 1 := by omega
                  rw [e1]; exact hn', h.hp.only ho (Blk.ne h.hp h.hn (by decide)), h.hm.only ho (Blk.ne h.hm h.hn (by decide)), h.hx.only ho (Blk.ne h.hx h.hn (by decide)), h.hq.only ho (Blk.ne h.hq h.hn (by decide)), h.hf.only ho (h.hf.ne h.hn (by decide)), h.hl, hlt⟩, ho⟩
end
end Go.Proofs.Ytffppdcpiieapaa.Procc

namespace Go.Proofs.Ytffppdcpiieapaa.Drivec
open Go.RowKit Go.Proofs.Ytffppdcpiieapaa.Memc Go.Proofs.Ytffppdcpiieapaa.Procc
set_option linter.unusedVariables false
set_option maxRecDepth 100000

/-- where the rest of a list of accesses begins -/
def tailA (b off c : Nat) : Option Addr := if c = 1 then some ⟨b, off, none⟩ else some ⟨b, off + 5, none⟩
/-- what beginning a call of one access comes to -/
def Began (w : World) (gLL i b off n c : Nat) (cs : Array Value) (a : Acc) (e : Ending) (w' : World) : Prop :=
  ∃ P ga : Nat, e = .returned (.iface 123 (.pointer (some ⟨P, 0, none⟩))) ∧ Fresh w' P ga a ∧ w.heap.size ≤ P ∧ w.heap.size ≤ ga ∧
      Blk w' gLL 27 (cs.setIfInBounds i (.slice (tailA b off c) (n - 1) (c - 1))) ∧ Only (fun g => g = gLL) w w'

end Go.Proofs.Ytffppdcpiieapaa.Drivec

namespace Go.Proofs.Ytffppdcpiieapaa.Zreg
open Go Go.RowKit
set_option linter.unusedVariables false
set_option maxRecDepth 100000
section
variable {P : Program} {ops : Array Oper} {Q : Exit → Act → World → Prop} {md : Region.Mode} {S : World → Prop} {zs : List Nat}

/-- one of zs has come up -/
def past (zs : List Nat) (listed : Array Bool) : Bool := zs.any fun z => listed.getD z false
theorem past_set {j : Nat} {listed : Array Bool} (h : past zs listed = false) (hj : j ∉ zs) : past zs (listed.setIfInBounds j true) = false := by
  unfold past at *
  rw [List.any_eq_false] at *
  intro z hz
  have hne : j ≠ z := fun e => hj (e ▸ hz)
  rw [getD_set_ne false hne]
  exact h z hz
theorem past_of_set {i : Nat} {listed : Array Bool} (hi : i ∉ zs) (h : past zs (listed.setIfInBounds i true) = true) : past zs listed = true := by
  cases hp : past zs listed
  · rw [past_set hp hi] at h; cases h
  · rfl
theorem past_mono {i : Nat} {listed : Array Bool} (h : past zs listed = true) : past zs (listed.setIfInBounds i true) = true := by
  unfold past at *
  rw [List.any_eq_true] at *
  obtain ⟨z, hz, hl⟩ := h
  exact ⟨z, hz, getD_set_true hl⟩

/-- whatever comes up: behind it S holds, or one of zs has come up -/
def After (P : Program) (md : Region.Mode) (ops : Array Oper) (Q : Exit → Act → World → Prop) (S : World → Prop) (zs : List Nat) : Nat → Array Bool → Act → World → Prop
  | 0 => fun listed a w => Region.ready md ops listed = [] ∧ Q .normal a w
  | n + 1 => fun listed a w => (Region.ready md ops listed = [] → Q .normal a w) ∧
      ∀ j, j ∈ Region.ready md ops listed → wpOp P ops Q j (fun b v => (past zs (listed.setIfInBounds j true) = true ∨ S v) ∧ After P md ops Q S zs n (listed.setIfInBounds j true) b v) a w

theorem After.any : ∀ (n : Nat) (listed : Array Bool) (a : Act) (w : World), After P md ops Q S zs n listed a w → wpAny P md ops Q n listed a w
  | 0, _, _, _, h => h
  | n + 1, _, _, _, h => ⟨h.1, fun j hj => wpOp_mono (fun b v hh => After.any n _ b v hh.2) (h.2 j hj)⟩

/-- who is ready ahead of number i doesn't wait for it -/
theorem not_waits {i j : Nat} {listed : Array Bool} {oj : Oper} (hr : i ∈ Region.ready md ops listed) (hoj : ops[j]? = some oj) (hall : ∀ e ∈ oj.after, Region.binds md e = true → listed.getD e.on false = true) :
    ∀ e ∈ oj.after, Region.binds md e = true → e.on ≠ i := fun e he hb heq => by
  have h1 := hall e he hb
  have h0 := (mem_ready.1 hr).1
  rw [heq] at h1
  rw [Array.getD_eq_getD_getElem?] at h0 h1
  rcases hx : listed[i]? with _ | y
  · rw [hx] at h1; cases h1
  · rw [hx] at h0 h1
    simp only [Option.getD_some] at h0 h1
    rw [h0] at h1; cases h1

/-- one that yields its value wherever S' holds may be taken first: S' is S, and zs wait for it; or S' is whatever -/
theorem After.first {S' : World → Prop} {i : Nat} {o : Oper} {x : Value} (hi : ops[i]? = some o) (hiz : i ∉ zs) (hsel : Region.noSelect ops = true) (hQ : ∀ c a w, Q (.panic c) (a.put o.dst x) w → Q (.panic c) a w) :
    ∀ (n : Nat) (listed : Array Bool) (a : Act) (w : World),
      ((∀ v, S' v) ∨ (∀ v, S v → S' v) ∧ past zs listed = false ∧ ∀ z ∈ zs, Region.waitsFor md ops z i = true) →
      (∀ j oj, ops[j]? = some oj → j ≠ i → listed.getD j true = false → (∀ e ∈ oj.after, Region.binds md e = true → e.on ≠ i) → o.apart ops oj = true) →
      i ∈ Region.ready md ops listed → YieldsIf P ops S' o x a → S' w → (past zs listed = true ∨ S w) → After P md ops Q S zs n (listed.setIfInBounds i true) (a.put o.dst x) w → After P md ops Q S zs (n + 1) listed a w
  | n, listed, a, w, hz, hfree, hr, hy, hS', hS, h => by
    refine ⟨(fun h0 => (by rw [h0] at hr; cases hr)), fun j hj => ?_⟩
    by_cases hji : j = i
    · subst hji
      exact hy.wpOp hi hS' ⟨hS.imp_left past_mono, h⟩
    · obtain ⟨hun, oj, hoj, hall⟩ := mem_ready.1 hj
      have hno := not_waits hr hoj hall
      match n, h with
      | 0, h =>
        have := ready_mono hj hji
        rw [h.1] at this
        cases this
      | n + 1, h =>
        have h1 := h.2 j (ready_mono hj hji)
        have h2 := wpOp_putIf hoj (hfree j oj hoj hji hun hno) (fun cs b => Region.noSelect_spec hsel i o cs b hi) (fun cs b => Region.noSelect_spec hsel j oj cs b hoj) hQ hy h1
        refine wpOp_mono (fun b v h3 => ?_) h2
        have hSv : past zs (listed.setIfInBounds j true) = true ∨ S v := by
          have h4 := h3.2.1
          rw [Array.setIfInBounds_comm _ _ (Ne.symm hji)] at h4
          exact h4.imp_left (past_of_set hiz)
        have hz' : (∀ v, S' v) ∨ (∀ v, S v → S' v) ∧ past zs (listed.setIfInBounds j true) = false ∧ ∀ z ∈ zs, Region.waitsFor md ops z i = true := by
          rcases hz with hz | ⟨hz1, hz2, hz3⟩
          · exact .inl hz
          · refine .inr ⟨hz1, past_set hz2 (fun hjz => ?_), hz3⟩
            obtain ⟨oj', hoj', e, he, hb, heq⟩ := Region.waitsFor_spec (hz3 j hjz)
            rw [hoj] at hoj'
            injection hoj' with hoj'
            subst hoj'
            exact hno e he hb heq
        have hS'v : S' v := by
          rcases hz' with hz | ⟨hz1, hz2, _⟩
          · exact hz v
          · exact hz1 v (hSv.resolve_left (by rw [hz2]; decide))
        refine ⟨hSv, After.first hi hiz hsel hQ n (listed.setIfInBounds j true) b v hz' (fun k ok hk hki hku hkn => ?_) (ready_mono hr (Ne.symm hji)) h3.1 hS'v hSv ?_⟩
        · refine hfree k ok hk hki ?_ hkn
          by_cases hjk : j = k
          · subst hjk; exact hun
          · rw [getD_set_ne true hjk] at hku; exact hku
        · rw [Array.setIfInBounds_comm _ _ hji]
          exact h3.2.2

theorem begin_ {id : Nat} {a : Act} {w : World} (hm : P.follows .mixedOrders = true) (h : After P .any ops Q S zs ops.size (Array.replicate ops.size false) a w.drew) : (Code.region id ops true).wp P Q a w :=
  wp_region_any hm (After.any _ _ _ _ h)
/-- take number i first, which reads what S tells; its slot is d -/
theorem takeS (i d : Nat) {o : Oper} {x : Value} {n : Nat} {listed : Array Bool} {tmps : Array Value} {w : World}
    (hi : ops[i]? = some o) (hd : o.dst = some d) (hs : Region.noSelect ops = true) (hf : Region.free md ops listed i = true) (hr : (Region.ready md ops listed).contains i = true) (hiz : zs.contains i = false) (hz : zs.all (fun z => Region.waitsFor md ops z i) = true) (hp : past zs listed = false)
    (hQ : ∀ c a w, Q (.panic c) (a.put o.dst x) w → Q (.panic c) a w) (hS : past zs listed = true ∨ S w) (hy : YieldsIf P ops S o x ⟨tmps, []⟩)
    (h : After P md ops Q S zs n (listed.setIfInBounds i true) ⟨tmps.setIfInBounds d x, []⟩ w) : After P md ops Q S zs (n + 1) listed ⟨tmps, []⟩ w := by
  refine After.first (S' := S) hi (by simpa using hiz) hs hQ n listed _ w (.inr ⟨fun _ h => h, hp, fun z hz' => List.all_eq_true.1 hz z hz'⟩) (fun j oj hj hne hun hno => Region.free_spec hi hf j oj hj hne hun hno) (by simpa using hr) hy (hS.resolve_left (by rw [hp]; decide)) hS ?_
  rw [hd]
  exact h
/-- take number i first, which reads nothing of the world; its slot is d -/
theorem takeP (i d : Nat) {o : Oper} {x : Value} {n : Nat} {listed : Array Bool} {tmps : Array Value} {w : World}
    (hi : ops[i]? = some o) (hd : o.dst = some d) (hs : Region.noSelect ops = true) (hf : Region.free md ops listed i = true) (hr : (Region.ready md ops listed).contains i = true) (hiz : zs.contains i = false)
    (hQ : ∀ c a w, Q (.panic c) (a.put o.dst x) w → Q (.panic c) a w) (hS : past zs listed = true ∨ S w) (hy : YieldsIf P ops (fun _ => True) o x ⟨tmps, []⟩)
    (h : After P md ops Q S zs n (listed.setIfInBounds i true) ⟨tmps.setIfInBounds d x, []⟩ w) : After P md ops Q S zs (n + 1) listed ⟨tmps, []⟩ w := by
  refine After.first (S' := fun _ => True) hi (by simpa using hiz) hs hQ n listed _ w (.inl fun _ => trivial) (fun j oj hj hne hun hno => Region.free_spec hi hf j oj hj hne hun hno) (by simpa using hr) hy trivial hS ?_
  rw [hd]
  exact h
/-- one alone may come up now -/
theorem one (i : Nat) {o : Oper} {n : Nat} {listed : Array Bool} {a : Act} {w : World} (hr : Region.ready md ops listed = [i]) (hi : ops[i]? = some o) (hg : o.guard = none)
    (h : ∀ K : Act → World → Prop, Hid (∀ b v, (past zs (listed.setIfInBounds i true) = true ∨ S v) → ((past zs (listed.setIfInBounds i true) = true ∨ S v) → After P md ops Q S zs n (listed.setIfInBounds i true) b v) → K b v) → Oper.wp P o a w K Q) : After P md ops Q S zs (n + 1) listed a w := by
  refine ⟨(fun h0 => (by rw [hr] at h0; cases h0)), fun j hj => ?_⟩
  rw [hr] at hj
  obtain rfl : j = i := by simpa using hj
  unfold wpOp
  rw [hi]
  have hw : Region.wanted o (yielded ops a.tmps) = true := by simp [Region.wanted, hg]
  simp only [hw, if_true]
  exact .inl (h _ (Lib.hid fun b v hS hh => ⟨hS, hh hS⟩))
/-- all have come up -/
theorem done {listed : Array Bool} {a : Act} {w : World} (hr : Region.ready md ops listed = []) (h : Q .normal a w) : ∀ n, After P md ops Q S zs n listed a w
  | 0 => ⟨hr, h⟩
  | _ + 1 => ⟨fun _ => h, by rw [hr]; simp⟩
end
end Go.Proofs.Ytffppdcpiieapaa.Zreg

namespace Go.Proofs.Ytffppdcpiieapaa.Drivec
open Go.RowKit Go.Proofs.Ytffppdcpiieapaa.Memc Go.Proofs.Ytffppdcpiieapaa.Procc
set_option linter.unusedVariables false
set_option maxRecDepth 100000

theorem call_cell : (Try.prog.info? 55).map (fun i => (i.zero, i.size, i.bytes)) = some (some (.agg #[.int .i64 0, .int .i64 0, .int .u32 0, .int .i64 0, .int .i64 0, .int .i64 0, .int .u32 0]), 7, 56) := by kernel_rfl
theorem method_next (p : Addr) (w : World) : (method 299 123 (.pointer (some p)) "Next").run Try.prog w = .ok (143, .pointer (some p)) w := by kernel_rfl
theorem method_result (p : Addr) (w : World) : (method 299 123 (.pointer (some p)) "Result").run Try.prog w = .ok (144, .pointer (some p)) w := by kernel_rfl

/-- the rest of a thread's calls -/
def tailO (b off c : Nat) : Option Addr := if c = 1 then some ⟨b, off, none⟩ else some ⟨b, off + 2, none⟩

/-- a thread's cells behind the beginning of a call -/
def begun (ct : Array Value) (o ob oo ln lcp sn P : Nat) (a : Acc) : Array Value :=
  ((((((((ct.setIfInBounds o (.slice (tailO ob oo lcp) (ln - 1) (lcp - 1))).setIfInBounds (o + 1) (.iface 123 (.pointer (some ⟨P, 0, none⟩)))).setIfInBounds (o + 2) (.int .i64 sn)).setIfInBounds (o + 3) (.int .i64 a.d)).setIfInBounds (o + 4) (.int .i64 a.ar)).setIfInBounds (o + 5) (.int .i64 a.at_)).setIfInBounds (o + 6) (.int .u64 a.old)).setIfInBounds (o + 7) (.int .u64 a.new)).setIfInBounds (o + 8) (.bool true)
/-- what beginning a thread's next call comes to -/
def Started (w : World) (gC gT gL gLL T lc i b off n c o ob oo ln lcp base nK : Nat) (cs ct : Array Value) (a : Acc) (r : R) (th sS sK : Sl) (xs : List Value) (e : Ending) (w' : World) : Prop :=
  ∃ (P ga : Nat) (s1 : Sl), e = .returned (.tuple #[]) ∧ Blk w' gC 102 #[.func (.func 27) #[] #[.pointer (some ⟨gL, 0, none⟩)], .slice th.A th.n th.c, .slice sS.A sS.n sS.c, .slice s1.A s1.n s1.c, .int .u64 r.e, .int .u64 r.f, .slice r.L.A r.L.n r.L.c, .slice r.P.A r.P.n r.P.c, .int .u64 r.h, .int .u64 r.t, .slice r.K.A r.K.n r.K.c, .slice r.X.A r.X.n r.X.c, .slice r.S.A r.S.n r.S.c] ∧ Blk w' gT 104 (begun ct o ob oo ln lcp sK.n P a) ∧ Waits w' P ga a ∧
    Row w' base 55 7 s1 (nK + 1) (xs ++ [.int .i64 i, .int .i64 0, .int .u32 0, .int .i64 sS.n, .int .i64 (-1), .int .i64 0, .int .u32 0]) ∧
    Blk w' gL 24 #[.slice (some ⟨gLL, 0, none⟩) T lc] ∧ Blk w' gLL 27 (cs.setIfInBounds i (.slice (tailA b off c) (n - 1) (c - 1))) ∧
    Only (fun g => (g = gT ∨ g = gLL) ∨ g = gC ∨ bl sK g) w w' ∧ w.heap.size ≤ P ∧ w.heap.size ≤ ga

end Go.Proofs.Ytffppdcpiieapaa.Drivec
