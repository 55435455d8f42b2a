/- A part of the proof. -/
import Derived.Test.YtffppdcpiieapaaGreatRows
import Derived.Deep.RegionHeld3
import Derived.Laws.MakeOwn
import Derived.WalkKit
import Derived.Lib.Hide
import Derived.IntWalk
import Derived.Outline
import Derived.Test.YtffppdcpiieapaaGreatP1
namespace Go.Proofs.YtffppdcpiieapaaGreat.Memc
open Go.RowKit
set_option linter.unusedVariables false
set_option maxRecDepth 100000

def left : List Bool -> Nat
 | [] => 0
 | true :: l => left l
 | false :: l => left l + 1
theorem left_set : ∀ (l : List Bool) (i : Nat), l[i]? = some false -> left (l.set i true) + 1 = left l
 | [], i, h => by simp at h
 | b :: l, 0, h => by
   simp only [List.getElem?_cons_zero, Option.some.injEq] at h
   subst h
   simp [left]
 | true :: l, i + 1, h => by
   have ih := left_set l i (by simpa using h)
   simpa [left] using ih
 | false :: l, i + 1, h => by
   have ih := left_set l i (by simpa using h)
   simp only [List.set_cons_succ, left]
   omega

section
variable {P : Program} {md : Region.Mode} {ops : Array Oper} {Q : Exit -> Act -> World -> Prop} {S : World -> Prop}
theorem ready_false {listed : Array Bool} {i : Nat} (h : i ∈ Region.ready md ops listed) : listed.toList[i]? = some false := by
 have h1 := (mem_ready.1 h).1
 rcases hx : listed[i]? with _ | b
 · simp [hx] at h1
 · simp [hx] at h1
   subst h1
   simpa using hx

theorem ordered (I : Array Bool -> Act -> World -> Prop)
   (step : ∀ (listed : Array Bool) (a : Act) (w : World) (i : Nat), I listed a w -> S w -> i ∈ Region.ready md ops listed -> wpOp P ops Q i (fun a' w' => S w' /\ I (listed.setIfInBounds i true) a' w') a w)
   (done : ∀ (listed : Array Bool) (a : Act) (w : World), I listed a w -> S w -> Region.ready md ops listed = [] -> Q .normal a w) :
   ∀ (fuel : Nat) (listed : Array Bool) (a : Act) (w : World), left listed.toList <= fuel -> I listed a w -> S w -> wpAnyH P md ops Q S fuel listed a w
 | 0, listed, a, w, hl, hI, hS => by
   have hr : Region.ready md ops listed = [] := by
     rcases hx : Region.ready md ops listed with _ | ⟨i, r⟩
     · rfl
     · have h1 := ready_false (md := md) (ops := ops) (listed := listed) (i := i) (by rw [hx]; exact List.mem_cons_self)
       have := left_set _ _ h1
       omega
   exact ⟨hr, done _ _ _ hI hS hr⟩
 | fuel + 1, listed, a, w, hl, hI, hS =>
   ⟨fun h => done _ _ _ hI hS h, fun i hi => wpOp_mono (fun a' w' ⟨hS', hI'⟩ =>
     ⟨hS', ordered I step done fuel _ _ _ (by
       have := left_set _ _ (ready_false hi)
       rw [Array.toList_setIfInBounds]
       omega) hI' hS'⟩) (step _ _ _ _ hI hS hi)⟩
end

/-! ### five rows of nothing and a variable, made in whatever order -/
def zeros (n : Nat) : Array Value := Array.replicate n (.int .u64 0)
def blank : Array Value := #[.int .u64 0, .int .u64 0, .slice none 0 0, .slice none 0 0, .int .u64 0, .int .u64 0, .slice none 0 0, .slice none 0 0, .slice none 0 0]
def upd {α : Type} (x : Nat -> α) (j : Nat) (v : α) : Nat -> α := fun i => if i = j then v else x i
theorem upd_same {α : Type} (x : Nat -> α) (j : Nat) (v : α) : upd x j v j = v := by simp [upd]
theorem upd_other {α : Type} (x : Nat -> α) (j i : Nat) (v : α) (h : i ≠ j) : upd x j v i = x i := by simp [upd, h]

theorem madeCells_zero (n : Nat) : madeCells (Value.int .u64 0).cells (n * 1) = zeros n := by
 apply Array.ext
 · simp [madeCells, zeros]
 · intro i h1 h2
   have h0 : i % 1 = 0 := Nat.mod_one i
   simp [madeCells, zeros, Value.cells, h0]

theorem run_mk (n : Nat) (v : Int) (hv : v = n) (hn : n <= 100000) (w : World) :
   (Instr.makeSlice 31 (.int .i64 v) (.int .i64 v)).run Tryz.prog w = .ok (.slice (some ⟨w.heap.size, 0, none⟩) n n) (w.alloc (.cells (zeros n) 30)) := by
 have hinfo : (Tryz.prog.info? 30).map (fun i => (i.zero, i.size, i.bytes)) = some (some (.int .u64 0), 1, 8) := by kernel_rfl
 obtain ⟨i0, hi0, hz0, hz1, hz2⟩ := info_parts hinfo
 subst hv
 have hr := run_make (P := Tryz.prog) w 31 30 i0 _ Tryz.underlying31 hi0 hz0 .i64 .i64 n n (by omega) (Int.le_refl _) (by rw [hz2]; omega) (by omega)
 rw [hz1] at hr
 simp only [Int.toNat_natCast, madeCells_zero] at hr
 exact hr

structure Made (w : World) (H0 : Nat) (N : Nat -> Nat) (x : Nat -> Nat) (L : Nat -> Bool) : Prop where
 row : ∀ j, j < 5 -> L j = true -> H0 <= x j /\ Blk w (x j) 30 (zeros (N j))
 old : L 5 = true -> H0 <= x 5 /\ x 5 < w.heap.size
 apart : ∀ i j, i < 6 -> j < 6 -> i ≠ j -> L i = true -> L j = true -> x i ≠ x j

section
variable {w : World} {H0 : Nat} {N x : Nat -> Nat} {L : Nat -> Bool}
theorem Made.start (w : World) (H0 : Nat) (N x : Nat -> Nat) : Made w H0 N x (fun _ => false) := ⟨fun _ _ h => by simp at h, fun h => by simp at h, fun _ _ _ _ _ h => by simp at h⟩
theorem Made.lt (h : Made w H0 N x L) {j : Nat} (hj : j < 6) (hl : L j = true) : x j < w.heap.size := by
 rcases (show j < 5 \/ j = 5 by omega) with h5 | h5
 · exact (h.row j h5 hl).2.lt
 · subst h5; exact (h.old hl).2
theorem Made.more (h : Made w H0 N x L) (hH : H0 <= w.heap.size) (j : Nat) (hj : j < 5) (o : Obj) (ho : o = .cells (zeros (N j)) 30) :
   Made (w.alloc o) H0 N (upd x j w.heap.size) (upd L j true) := by
 subst ho
 refine ⟨fun i hi hl => ?_, fun hl => ?_, fun i k hi hk hne hl hl' => ?_⟩
 · by_cases hij : i = j
   · subst hij; rw [upd_same]; exact ⟨hH, Blk.new _ _ _⟩
   · rw [upd_other _ _ _ _ hij] at hl ⊢
     exact ⟨(h.row i hi hl).1, (h.row i hi hl).2.alloc _⟩
 · rw [upd_other _ _ _ _ (by omega)] at hl ⊢
   exact ⟨(h.old hl).1, by have := (h.old hl).2; simp; omega⟩
 · by_cases hij : i = j
   · subst hij
     rw [upd_same, upd_other _ _ _ _ (by omega)]
     rw [upd_other _ _ _ _ (by omega)] at hl'
     have := h.lt hk hl'
     omega
   · rw [upd_other _ _ _ _ hij] at hl ⊢
     by_cases hkj : k = j
     · subst hkj
       rw [upd_same]
       have := h.lt hi hl
       omega
     · rw [upd_other _ _ _ _ hkj] at hl' ⊢
       exact h.apart i k hi hk hne hl hl'
theorem Made.var (h : Made w H0 N x L) (hH : H0 <= w.heap.size) (o : Obj) : Made (w.alloc o) H0 N (upd x 5 w.heap.size) (upd L 5 true) := by
 refine ⟨fun i hi hl => ?_, fun hl => ?_, fun i k hi hk hne hl hl' => ?_⟩
 · rw [upd_other _ _ _ _ (by omega)] at hl ⊢
   exact ⟨(h.row i hi hl).1, (h.row i hi hl).2.alloc _⟩
 · rw [upd_same]; exact ⟨hH, by simp⟩
 · by_cases hij : i = 5
   · subst hij
     rw [upd_same, upd_other _ _ _ _ (by omega)]
     rw [upd_other _ _ _ _ (by omega)] at hl'
     have := h.lt hk hl'
     omega
   · rw [upd_other _ _ _ _ hij] at hl ⊢
     by_cases hkj : k = 5
     · subst hkj
       rw [upd_same]
       have := h.lt hi hl
       omega
     · rw [upd_other _ _ _ _ hkj] at hl' ⊢
       exact h.apart i k hi hk hne hl hl'
theorem Made.stored (h : Made w H0 N x L) (hl5 : L 5 = true) (i : Nat) (v : Value) : Made (w.setCell ⟨x 5, i, none⟩ v) H0 N x L :=
 ⟨fun j hj hl => ⟨(h.row j hj hl).1, (h.row j hj hl).2.far (p := ⟨x 5, i, none⟩) (h.apart j 5 (by omega) (by omega) (by omega) hl hl5) v⟩, fun hl => ⟨(h.old hl).1, by rw [size_set]; exact (h.old hl).2⟩, h.apart⟩
end

theorem all_up {md : Region.Mode} {ops : Array Oper} {listed : Array Bool} (hr : Region.ready md ops listed = []) (j : Nat) {o : Oper} (ho : ops[j]? = some o)
   (hd : ∀ e ∈ o.after, Region.binds md e = true -> listed.getD e.on false = true) : listed.getD j true = true := by
 cases h : listed.getD j true
 · have := (mem_ready (md := md) (ops := ops) (listed := listed) (j := j)).2 ⟨h, o, ho, hd⟩
   rw [hr] at this
   cases this
 · rfl

theorem take_at {P : Program} {md : Region.Mode} {ops : Array Oper} {Q : Exit -> Act -> World -> Prop} {S : World -> Prop} (i d : Nat) {oi : Oper} {v : Value} {fuel : Nat} {listed : Array Bool} {tmps : Array Value} {w : World}
   (hi : ops[i]? = some oi) (hd : oi.dst = some d) (hs : Region.noSelect ops = true) (hf : Region.free md ops listed i = true) (hr : (Region.ready md ops listed).contains i = true)
   (hQ : ∀ c a w, Q (.panic c) (a.put oi.dst v) w -> Q (.panic c) a w) (hS : S w) (hy : YieldsIf P ops S oi v ⟨tmps, []⟩)
   (h : wpAnyH P md ops Q S fuel (listed.setIfInBounds i true) ⟨tmps.setIfInBounds d v, []⟩ w) : wpAnyH P md ops Q S (fuel + 1) listed ⟨tmps, []⟩ w := by
 refine wpAnyH_take hi hs hf hr hQ hy hS ?_
 rw [hd]
 exact h

theorem wpOp_run {P : Program} {ops : Array Oper} {Q : Exit -> Act -> World -> Prop} {i : Nat} {o : Oper} {K : Act -> World -> Prop} {a : Act} {w : World} (ho : ops[i]? = some o) (hg : o.guard = none)
   (h : ∀ K' : Act -> World -> Prop, Hid (∀ a' w', K a' w' -> K' a' w') -> Oper.wp P o a w K' Q) : wpOp P ops Q i K a w := by
 unfold wpOp
 rw [ho]
 have hw : Region.wanted o (yielded ops a.tmps) = true := by simp [Region.wanted, hg]
 simp only [hw, if_true]
 exact .inl (h K (lh fun _ _ h => h))

theorem mul_in (M K : Nat) (h : M * K <= 4096) : IntKind.i64.wrap ((M : Int) * (K : Int)) = (M : Int) * (K : Int) := by
 have h1 : ((M * K : Nat) : Int) <= 4096 := by omega
 rw [Int.natCast_mul] at h1
 have h0 : (0 : Int) <= (M : Int) * (K : Int) := Int.mul_nonneg (by omega) (by omega)
 exact IntWalk.i64_in _ (by omega)

theorem keep3 {W W' : World} {H : Nat} {a b c : Option Value} (h : W.cell? ⟨H, 1, none⟩ = a /\ W.cell? ⟨H, 2, none⟩ = b /\ W.cell? ⟨H, 3, none⟩ = c) (hk : W'.heap[H]? = W.heap[H]?) :
   W'.cell? ⟨H, 1, none⟩ = a /\ W'.cell? ⟨H, 2, none⟩ = b /\ W'.cell? ⟨H, 3, none⟩ = c :=
 ⟨(World.cell?_of_block (a := ⟨H, 1, none⟩) hk).trans h.1, (World.cell?_of_block (a := ⟨H, 2, none⟩) hk).trans h.2.1, (World.cell?_of_block (a := ⟨H, 3, none⟩) hk).trans h.2.2⟩

def nn (T M K : Nat) (j : Nat) : Nat := if j = 0 then 3 else if j = 1 then T else if j = 4 then M * K else M
def sv (L : Nat -> Bool) (x N : Nat -> Nat) (j : Nat) : Value := if L j = true then .slice (some ⟨x j, 0, none⟩) (N j) (N j) else undef
def pv (L : Nat -> Bool) (x : Nat -> Nat) : Value := if L 5 = true then .pointer (some ⟨x 5, 0, none⟩) else undef
def news (x N : Nat -> Nat) : Array Value := #[.int .u64 0, .int .u64 0, .slice (some ⟨x 0, 0, none⟩) (N 0) (N 0), .slice (some ⟨x 1, 0, none⟩) (N 1) (N 1), .int .u64 0, .int .u64 0, .slice (some ⟨x 2, 0, none⟩) (N 2) (N 2), .slice (some ⟨x 3, 0, none⟩) (N 3) (N 3), .slice (some ⟨x 4, 0, none⟩) (N 4) (N 4)]
def bv (b : Bool) (x N : Nat -> Nat) : Value := if b = true then .agg (news x N) else undef

structure State (w1 : World) (N x : Nat -> Nat) (L : Nat -> Bool) (b d : Bool) (W : World) : Prop where
 made : Made W w1.heap.size N x L
 below : Below w1.heap.size w1 W
 built : b = true -> ∀ j, j < 5 -> L j = true
 put_ : d = true -> b = true /\ L 5 = true
 var : L 5 = true -> Blk W (x 5) 33 (if d = true then news x N else blank)

section
variable {w1 W : World} {N x : Nat -> Nat} {L : Nat -> Bool} {b d : Bool}
theorem State.start (w1 : World) (N x : Nat -> Nat) : State w1 N x (fun _ => false) false false w1.drew :=
 ⟨Made.start _ _ _ _, (Below.refl _ _).drew, fun h => by simp at h, fun h => by simp at h, fun h => by simp at h⟩
theorem State.no (h : State w1 N x L b d W) (j : Nat) (hj : j < 5) (hl : L j = false) : b = false /\ d = false := by
 have hb : b = false := by
   cases hb : b
   · rfl
   · have := h.built hb j hj
     rw [hl] at this; cases this
 refine ⟨hb, ?_⟩
 cases hd : d
 · rfl
 · have := (h.put_ hd).1
   rw [hb] at this; cases this
theorem State.row (h : State w1 N x L b d W) (j : Nat) (hj : j < 5) (hl : L j = false) : State w1 N (upd x j W.heap.size) (upd L j true) false false (W.alloc (.cells (zeros (N j)) 30)) := by
 refine ⟨h.made.more h.below.size j hj _ rfl, h.below.alloc h.below.size _, fun h => by simp at h, fun h => by simp at h, fun h5 => ?_⟩
 rw [upd_other _ _ _ _ (by omega)] at h5 ⊢
 have hd : d = false := by
   cases hd : d
   · rfl
   · have := h.built (h.put_ hd).1 j hj
     rw [hl] at this; cases this
 have := h.var h5
 rw [hd] at this
 exact this.alloc _
theorem State.new (h : State w1 N x L b d W) (hl : L 5 = false) : State w1 N (upd x 5 W.heap.size) (upd L 5 true) b false (W.alloc (.cells blank 33)) := by
 refine ⟨h.made.var h.below.size _, h.below.alloc h.below.size _, fun hb j hj => ?_, fun h => by simp at h, fun h5 => ?_⟩
 · rw [upd_other _ _ _ _ (by omega)]; exact h.built hb j hj
 · rw [upd_same]; exact Blk.new _ _ _
theorem State.build (h : State w1 N x L b d W) (hb : b = false) (hl : ∀ j, j < 5 -> L j = true) : State w1 N x L true false W := by
 refine ⟨h.made, h.below, fun _ => hl, fun h => by simp at h, fun h5 => ?_⟩
 have hd : d = false := by
   cases hd : d
   · rfl
   · have := (h.put_ hd).1
     rw [hb] at this; cases this
 have := h.var h5
 rw [hd] at this
 exact this
theorem State.store (h : State w1 N x L true false W) (hl : L 5 = true) : State w1 N x L true true (((((((((W.setCell ⟨x 5, 0, none⟩ (.int .u64 0)).setCell ⟨x 5, 1, none⟩ (.int .u64 0)).setCell ⟨x 5, 2, none⟩ (.slice (some ⟨x 0, 0, none⟩) (N 0) (N 0))).setCell ⟨x 5, 3, none⟩ (.slice (some ⟨x 1, 0, none⟩) (N 1) (N 1))).setCell ⟨x 5, 4, none⟩ (.int .u64 0)).setCell ⟨x 5, 5, none⟩ (.int .u64 0)).setCell ⟨x 5, 6, none⟩ (.slice (some ⟨x 2, 0, none⟩) (N 2) (N 2))).setCell ⟨x 5, 7, none⟩ (.slice (some ⟨x 3, 0, none⟩) (N 3) (N 3))).setCell ⟨x 5, 8, none⟩ (.slice (some ⟨x 4, 0, none⟩) (N 4) (N 4))) := by
 have h5 := h.made.old hl
 have hv : Blk W (x 5) 33 blank := h.var hl
 refine ⟨(((((((((h.made.stored hl 0 (.int .u64 0)).stored hl 1 (.int .u64 0)).stored hl 2 (.slice (some ⟨x 0, 0, none⟩) (N 0) (N 0))).stored hl 3 (.slice (some ⟨x 1, 0, none⟩) (N 1) (N 1))).stored hl 4 (.int .u64 0)).stored hl 5 (.int .u64 0)).stored hl 6 (.slice (some ⟨x 2, 0, none⟩) (N 2) (N 2))).stored hl 7 (.slice (some ⟨x 3, 0, none⟩) (N 3) (N 3))).stored hl 8 (.slice (some ⟨x 4, 0, none⟩) (N 4) (N 4))), (((((((((h.below.setCell (p := ⟨x 5, 0, none⟩) h5.1 (.int .u64 0)).setCell (p := ⟨x 5, 1, none⟩) h5.1 (.int .u64 0)).setCell (p := ⟨x 5, 2, none⟩) h5.1 (.slice (some ⟨x 0, 0, none⟩) (N 0) (N 0))).setCell (p := ⟨x 5, 3, none⟩) h5.1 (.slice (some ⟨x 1, 0, none⟩) (N 1) (N 1))).setCell (p := ⟨x 5, 4, none⟩) h5.1 (.int .u64 0)).setCell (p := ⟨x 5, 5, none⟩) h5.1 (.int .u64 0)).setCell (p := ⟨x 5, 6, none⟩) h5.1 (.slice (some ⟨x 2, 0, none⟩) (N 2) (N 2))).setCell (p := ⟨x 5, 7, none⟩) h5.1 (.slice (some ⟨x 3, 0, none⟩) (N 3) (N 3))).setCell (p := ⟨x 5, 8, none⟩) h5.1 (.slice (some ⟨x 4, 0, none⟩) (N 4) (N 4))), h.built, fun _ => ⟨rfl, hl⟩, fun _ => ?_⟩
 have hb := (((((((((hv.set_ 0 (.int .u64 0)).set_ 1 (.int .u64 0)).set_ 2 (.slice (some ⟨x 0, 0, none⟩) (N 0) (N 0))).set_ 3 (.slice (some ⟨x 1, 0, none⟩) (N 1) (N 1))).set_ 4 (.int .u64 0)).set_ 5 (.int .u64 0)).set_ 6 (.slice (some ⟨x 2, 0, none⟩) (N 2) (N 2))).set_ 7 (.slice (some ⟨x 3, 0, none⟩) (N 3) (N 3))).set_ 8 (.slice (some ⟨x 4, 0, none⟩) (N 4) (N 4)))
 simp only [blank, List.setIfInBounds_toArray, List.set_cons_zero, List.set_cons_succ] at hb
 exact hb
theorem State.d_false (h : State w1 N x L b d W) (hl : L 5 = false) : d = false := by
 cases hd : d
 · rfl
 · have := (h.put_ hd).2
   rw [hl] at this; cases this
theorem State.hold (h : State w1 N x L b true W) (hl : ∀ j, j < 6 -> L j = true) (m : M) (he : m.e = 0 /\ m.f = 0 /\ m.h = 0 /\ m.t = 0)
   (hm : m.li = List.replicate (N 0) 0 /\ m.pi = List.replicate (N 1) 0 /\ m.lk = List.replicate (N 2) 0 /\ m.nx = List.replicate (N 3) 0 /\ m.sl = List.replicate (N 4) 0) (hN : ∀ j, N j <= maxLen) :
   Hold W w1.heap.size (x 5) ⟨0, 0, ⟨some ⟨x 0, 0, none⟩, N 0, N 0⟩, ⟨some ⟨x 1, 0, none⟩, N 1, N 1⟩, 0, 0, ⟨some ⟨x 2, 0, none⟩, N 2, N 2⟩, ⟨some ⟨x 3, 0, none⟩, N 3, N 3⟩, ⟨some ⟨x 4, 0, none⟩, N 4, N 4⟩⟩ m := by
 have hz : ∀ n : Nat, u64s (List.replicate n 0) := fun n y hy => by rw [List.eq_of_mem_replicate hy]; exact ⟨Int.le_refl 0, by decide⟩
 have own : ∀ j, j < 5 -> Own W w1.heap.size ⟨some ⟨x j, 0, none⟩, N j, N j⟩ (List.replicate (N j) 0) := fun j hj => by
   obtain ⟨h1, h2⟩ := h.made.row j hj (hl j (by omega))
   refine ⟨hz _, by simp, .inr ⟨x j, N j, zeros (N j), by simp, h1, h2, by simp, hN j, by simp [zeros], by simp [zeros]⟩⟩
 obtain ⟨e1, e2, e3, e4⟩ := he
 obtain ⟨q1, q2, q3, q4, q5⟩ := hm
 have hv := h.var (hl 5 (by omega))
 refine ⟨hv, (h.made.old (hl 5 (by omega))).1, e1.symm, e2.symm, e3.symm, e4.symm, ?_, ?_, ?_⟩
 · intro a
   by_cases ho : a < 1 \/ 9 < a
   · rw [area_no _ _ ho]; exact u64s_nil
   · have one : u64s [0] := hz 1
     rcases nine ho with rfl | rfl | rfl | rfl | rfl | rfl | rfl | rfl | rfl
     · rw [area_1, e1]; exact one
     · rw [area_2, e2]; exact one
     · rw [area_3, q1]; exact hz _
     · rw [area_4, q2]; exact hz _
     · rw [area_5, e3]; exact one
     · rw [area_6, e4]; exact one
     · rw [area_7, q3]; exact hz _
     · rw [area_8, q4]; exact hz _
     · rw [area_9, q5]; exact hz _
 · intro a ha
   rcases ha with rfl | rfl | rfl | rfl | rfl
   · rw [area_3, q1]; exact own 0 (by omega)
   · rw [area_4, q2]; exact own 1 (by omega)
   · rw [area_7, q3]; exact own 2 (by omega)
   · rw [area_8, q4]; exact own 3 (by omega)
   · rw [area_9, q5]; exact own 4 (by omega)
 · have ap : ∀ i j, i < 6 -> j < 6 -> i ≠ j -> x i ≠ x j := fun i j hi hj hne => h.made.apart i j hi hj hne (hl i hi) (hl j hj)
   intro a ha ad had
   have key : ∀ a, la a -> ∃ j, j < 5 /\ (R.sl ⟨0, 0, ⟨some ⟨x 0, 0, none⟩, N 0, N 0⟩, ⟨some ⟨x 1, 0, none⟩, N 1, N 1⟩, 0, 0, ⟨some ⟨x 2, 0, none⟩, N 2, N 2⟩, ⟨some ⟨x 3, 0, none⟩, N 3, N 3⟩, ⟨some ⟨x 4, 0, none⟩, N 4, N 4⟩⟩ a).A = some ⟨x j, 0, none⟩ /\ (a = 3 /\ j = 0 \/ a = 4 /\ j = 1 \/ a = 7 /\ j = 2 \/ a = 8 /\ j = 3 \/ a = 9 /\ j = 4) := fun a ha => by
     rcases ha with rfl | rfl | rfl | rfl | rfl
     · exact ⟨0, by omega, rfl, by omega⟩
     · exact ⟨1, by omega, rfl, by omega⟩
     · exact ⟨2, by omega, rfl, by omega⟩
     · exact ⟨3, by omega, rfl, by omega⟩
     · exact ⟨4, by omega, rfl, by omega⟩
   obtain ⟨j, hj, hA, hja⟩ := key a ha
   rw [hA] at had
   injection had with had
   subst had
   refine ⟨ap j 5 (by omega) (by omega) (by omega), fun c hc hne ad' had' => ?_⟩
   obtain ⟨j', hj', hA', hja'⟩ := key c hc
   rw [hA'] at had'
   injection had' with had'
   subst had'
   exact ap j' j (by omega) (by omega) (by omega)
end
end Go.Proofs.YtffppdcpiieapaaGreat.Memc

namespace Go.Proofs.YtffppdcpiieapaaGreat.Newc
open Go.RowKit Memc
set_option linter.unusedVariables false
set_option maxRecDepth 100000

structure Cfg where
 k : Int
 K : Int
 T : Int
 M : Int
def Cfg.ok (c : Cfg) : Prop := (-9223372036854775808 <= c.k /\ c.k <= 9223372036854775807) /\ (-9223372036854775808 <= c.K /\ c.K <= 9223372036854775807) /\ (-9223372036854775808 <= c.T /\ c.T <= 9223372036854775807) /\ (-9223372036854775808 <= c.M /\ c.M <= 9223372036854775807)
def Cfg.may (c : Cfg) : Prop := (1 <= c.k /\ c.k <= 3) /\ (1 <= c.K /\ c.K <= 64) /\ (1 <= c.T /\ c.T <= 8) /\ (2 <= c.M /\ c.M <= 64)
instance (c : Cfg) : Decidable c.may := by unfold Cfg.may; infer_instance

def Tells (w : World) (b : Bool) (e : Ending) (w' : World) : Prop := e = .returned (.bool b) /\ Below w.heap.size w w'

theorem within_yes (n a b : Int) (w : World) (h1 : a <= n) (h2 : n <= b) :
   Calls Tryz.prog 64 #[.int .i64 n, .int .i64 a, .int .i64 b] w fun e w' => e = .returned (.bool true) /\ w = w' := by
 go_enter Tryz.func64, Tryz.ntmps64
 go_wp2
 go_ret
 exact ⟨rfl, rfl⟩
theorem within_no (n a b : Int) (w : World) (h : n < a \/ b < n) :
   Calls Tryz.prog 64 #[.int .i64 n, .int .i64 a, .int .i64 b] w fun e w' => e = .returned (.bool false) /\ w = w' := by
 by_cases h1 : n < a
 · clear h
   go_enter Tryz.func64, Tryz.ntmps64
   go_wp2
   go_ret
   exact ⟨rfl, rfl⟩
 · have h2 : decide (n <= b) = false := by simp; omega
   have h3 : a <= n := by omega
   clear h h1
   go_enter Tryz.func64, Tryz.ntmps64
   go_wp2
   go_ret
   exact ⟨rfl, rfl⟩

set_option maxHeartbeats 1000000 in
theorem may_yes (w : World) (k K T M : Int) (k1 : 1 <= k) (k2 : k <= 3) (a1 : 1 <= K) (a2 : K <= 64) (t1 : 1 <= T) (t2 : T <= 8) (m1 : 2 <= M) (m2 : M <= 64) :
   Calls Tryz.prog 51 #[.agg #[.int .i64 k, .int .i64 K, .int .i64 T, .int .i64 M]] w (Tells w true) := by
 go_enter Tryz.func51, Tryz.ntmps51
 go_wp2_with (go_at_call 64; refine (within_yes _ _ _ _ (by omega) (by omega)).mono ?_; rintro e w' ⟨rfl, rfl⟩)
 go_ret
 exact ⟨rfl, (Below.refl _ _).alloc (Nat.le_refl _) _⟩
set_option maxHeartbeats 1000000 in
theorem refmay_yes (w : World) (k K T M : Int) (k1 : 1 <= k) (k2 : k <= 3) (a1 : 1 <= K) (a2 : K <= 64) (t1 : 1 <= T) (t2 : T <= 8) (m1 : 2 <= M) (m2 : M <= 64) :
   Calls Tryz.prog 57 #[.agg #[.int .i64 k, .int .i64 K, .int .i64 T, .int .i64 M]] w (Tells w true) := by
 go_enter Tryz.func57, Tryz.ntmps57
 go_wp2
 go_ret
 exact ⟨rfl, (Below.refl _ _).alloc (Nat.le_refl _) _⟩

set_option maxHeartbeats 2000000 in
theorem may_no (w : World) (k K T M : Int) (h : ¬ (Cfg.mk k K T M).may) :
   Calls Tryz.prog 51 #[.agg #[.int .i64 k, .int .i64 K, .int .i64 T, .int .i64 M]] w (Tells w false) := by
 have hh : (k < 1 \/ 3 < k) \/ (1 <= k /\ k <= 3) /\ (K < 1 \/ 64 < K) \/ (1 <= k /\ k <= 3) /\ (1 <= K /\ K <= 64) /\ (T < 1 \/ 8 < T) \/ (1 <= k /\ k <= 3) /\ (1 <= K /\ K <= 64) /\ (1 <= T /\ T <= 8) /\ (M < 2 \/ 64 < M) := by
   unfold Cfg.may at h
   simp only at h
   omega
 clear h
 rcases hh with hh | hh | hh | hh
 all_goals
   have HH := lh hh
   clear hh
   go_enter Tryz.func51, Tryz.ntmps51
   go_wp2_with (go_at_call 64; (first | (refine (within_yes _ _ _ _ ?_ ?_).mono ?_; (have := HH.out; omega); (have := HH.out; omega); rintro e w' ⟨rfl, rfl⟩) | (refine (within_no _ _ _ _ ?_).mono ?_; (have := HH.out; omega); rintro e w' ⟨rfl, rfl⟩)))
   go_ret
   exact ⟨rfl, (Below.refl _ _).alloc (Nat.le_refl _) _⟩

set_option maxHeartbeats 1000000 in
theorem refmay_klo (w : World) (k K T M : Int)  (hb : k < 1) :
   Calls Tryz.prog 57 #[.agg #[.int .i64 k, .int .i64 K, .int .i64 T, .int .i64 M]] w (Tells w false) := by
 have hq : decide (1 <= k) = false := by simp; omega
 clear hb
 go_enter Tryz.func57, Tryz.ntmps57
 go_wp2
 go_ret
 exact ⟨rfl, (Below.refl _ _).alloc (Nat.le_refl _) _⟩

set_option maxHeartbeats 1000000 in
theorem refmay_khi (w : World) (k K T M : Int) (h0 : 1 <= k) (hb : 3 < k) :
   Calls Tryz.prog 57 #[.agg #[.int .i64 k, .int .i64 K, .int .i64 T, .int .i64 M]] w (Tells w false) := by
 have hq : decide (k <= 3) = false := by simp; omega
 clear hb
 go_enter Tryz.func57, Tryz.ntmps57
 go_wp2
 go_ret
 exact ⟨rfl, (Below.refl _ _).alloc (Nat.le_refl _) _⟩

set_option maxHeartbeats 1000000 in
theorem refmay_Klo (w : World) (k K T M : Int) (h0 : 1 <= k) (h1 : k <= 3) (hb : K < 1) :
   Calls Tryz.prog 57 #[.agg #[.int .i64 k, .int .i64 K, .int .i64 T, .int .i64 M]] w (Tells w false) := by
 have hq : decide (1 <= K) = false := by simp; omega
 clear hb
 go_enter Tryz.func57, Tryz.ntmps57
 go_wp2
 go_ret
 exact ⟨rfl, (Below.refl _ _).alloc (Nat.le_refl _) _⟩

set_option maxHeartbeats 1000000 in
theorem refmay_Khi (w : World) (k K T M : Int) (h0 : 1 <= k) (h1 : k <= 3) (h2 : 1 <= K) (hb : 64 < K) :
   Calls Tryz.prog 57 #[.agg #[.int .i64 k, .int .i64 K, .int .i64 T, .int .i64 M]] w (Tells w false) := by
 have hq : decide (K <= 64) = false := by simp; omega
 clear hb
 go_enter Tryz.func57, Tryz.ntmps57
 go_wp2
 go_ret
 exact ⟨rfl, (Below.refl _ _).alloc (Nat.le_refl _) _⟩

set_option maxHeartbeats 1000000 in
theorem refmay_Tlo (w : World) (k K T M : Int) (h0 : 1 <= k) (h1 : k <= 3) (h2 : 1 <= K) (h3 : K <= 64) (hb : T < 1) :
   Calls Tryz.prog 57 #[.agg #[.int .i64 k, .int .i64 K, .int .i64 T, .int .i64 M]] w (Tells w false) := by
 have hq : decide (1 <= T) = false := by simp; omega
 clear hb
 go_enter Tryz.func57, Tryz.ntmps57
 go_wp2
 go_ret
 exact ⟨rfl, (Below.refl _ _).alloc (Nat.le_refl _) _⟩

set_option maxHeartbeats 1000000 in
theorem refmay_Thi (w : World) (k K T M : Int) (h0 : 1 <= k) (h1 : k <= 3) (h2 : 1 <= K) (h3 : K <= 64) (h4 : 1 <= T) (hb : 8 < T) :
   Calls Tryz.prog 57 #[.agg #[.int .i64 k, .int .i64 K, .int .i64 T, .int .i64 M]] w (Tells w false) := by
 have hq : decide (T <= 8) = false := by simp; omega
 clear hb
 go_enter Tryz.func57, Tryz.ntmps57
 go_wp2
 go_ret
 exact ⟨rfl, (Below.refl _ _).alloc (Nat.le_refl _) _⟩

set_option maxHeartbeats 1000000 in
theorem refmay_Mlo (w : World) (k K T M : Int) (h0 : 1 <= k) (h1 : k <= 3) (h2 : 1 <= K) (h3 : K <= 64) (h4 : 1 <= T) (h5 : T <= 8) (hb : M < 2) :
   Calls Tryz.prog 57 #[.agg #[.int .i64 k, .int .i64 K, .int .i64 T, .int .i64 M]] w (Tells w false) := by
 have hq : decide (2 <= M) = false := by simp; omega
 clear hb
 go_enter Tryz.func57, Tryz.ntmps57
 go_wp2
 go_ret
 exact ⟨rfl, (Below.refl _ _).alloc (Nat.le_refl _) _⟩

set_option maxHeartbeats 1000000 in
theorem refmay_Mhi (w : World) (k K T M : Int) (h0 : 1 <= k) (h1 : k <= 3) (h2 : 1 <= K) (h3 : K <= 64) (h4 : 1 <= T) (h5 : T <= 8) (h6 : 2 <= M) (hb : 64 < M) :
   Calls Tryz.prog 57 #[.agg #[.int .i64 k, .int .i64 K, .int .i64 T, .int .i64 M]] w (Tells w false) := by
 have hq : decide (M <= 64) = false := by simp; omega
 clear hb
 go_enter Tryz.func57, Tryz.ntmps57
 go_wp2
 go_ret
 exact ⟨rfl, (Below.refl _ _).alloc (Nat.le_refl _) _⟩

theorem refmay_no (w : World) (k K T M : Int) (h : ¬ (Cfg.mk k K T M).may) :
   Calls Tryz.prog 57 #[.agg #[.int .i64 k, .int .i64 K, .int .i64 T, .int .i64 M]] w (Tells w false) := by
 unfold Cfg.may at h
 simp only at h
 by_cases c0 : k < 1
 · exact refmay_klo w k K T M  c0
 by_cases c1 : 3 < k
 · exact refmay_khi w k K T M (by omega) c1
 by_cases c2 : K < 1
 · exact refmay_Klo w k K T M (by omega) (by omega) c2
 by_cases c3 : 64 < K
 · exact refmay_Khi w k K T M (by omega) (by omega) (by omega) c3
 by_cases c4 : T < 1
 · exact refmay_Tlo w k K T M (by omega) (by omega) (by omega) (by omega) c4
 by_cases c5 : 8 < T
 · exact refmay_Thi w k K T M (by omega) (by omega) (by omega) (by omega) (by omega) c5
 by_cases c6 : M < 2
 · exact refmay_Mlo w k K T M (by omega) (by omega) (by omega) (by omega) (by omega) (by omega) c6
 by_cases c7 : 64 < M
 · exact refmay_Mhi w k K T M (by omega) (by omega) (by omega) (by omega) (by omega) (by omega) (by omega) c7
 exact absurd (by omega) h
end Go.Proofs.YtffppdcpiieapaaGreat.Newc

namespace Go.Proofs.YtffppdcpiieapaaGreat.Newc
open Go.RowKit Memc Wordc
set_option linter.unusedVariables false
set_option maxRecDepth 100000

def linked (h n j : Nat) : List Int := (List.range n).map fun i => if h <= i /\ i + 1 < j then (i : Int) + 2 else 0
theorem linked_len (h n j : Nat) : (linked h n j).length = n := by simp [linked]
theorem linked_zero (h n j : Nat) (hj : j <= h + 1) : linked h n j = List.replicate n 0 := by
 refine List.ext_getElem (by simp [linked]) fun i h1 h2 => ?_
 simp only [linked, List.getElem_map, List.getElem_range, List.getElem_replicate]
 rw [if_neg (by omega)]
theorem linked_set (h n p : Nat) (hp : h <= p) (hn : p + 1 < n) : (linked h n (p + 1)).set p ((p : Int) + 2) = linked h n (p + 2) := by
 refine List.ext_getElem (by simp [linked]) fun i h1 h2 => ?_
 rw [List.getElem_set]
 simp only [linked, List.getElem_map, List.getElem_range]
 by_cases hpi : p = i
 · subst hpi
   rw [if_pos rfl, if_pos (by omega)]
 · rw [if_neg hpi]
   by_cases hc : h <= i /\ i + 1 < p + 1
   · rw [if_pos hc, if_pos (by omega)]
   · rw [if_neg hc, if_neg (by omega)]
theorem linked_ok (h n j : Nat) (hn : n <= 100) : u64s (linked h n j) := by
 intro x hx
 obtain ⟨i, hi, rfl⟩ := List.mem_map.1 hx
 have := List.mem_range.1 hi
 split <;> omega

def newM (k : Int) (K T M : Nat) : Memc.M :=
 { e := 0, f := if k = 1 then 2 else if k = 3 then 1 else 0, li := List.replicate 3 0, pi := List.replicate T 0, h := if k = 1 then 1 else 0, t := if k = 1 then 1 else 0,
   lk := linked (if k = 1 then 1 else if k = 3 then 0 else M) M M, nx := List.replicate M 0, sl := List.replicate (M * K) 0 }

theorem ref0_c (x : Int) (w : World) (x0 : 0 <= x) (x1 : x <= 1000) :
   Calls Tryz.prog 20 #[.int .u32 0, .int .i64 x] w fun e w' => e = .returned (.int .u64 (x + 1)) /\ w = w' :=
 (ref_c 0 x w (by omega) (by omega) (by omega) (by omega)).mono fun e w' ⟨he, hw⟩ => ⟨by rw [he]; exact ret_int (by omega), hw⟩

def Just (g : Nat) (w w' : World) : Prop := w.grownBy w' (some g) /\ w'.heap.size = w.heap.size
theorem Just.refl (g : Nat) (w : World) : Just g w w := ⟨World.grownBy.refl w _, rfl⟩
theorem Just.set_ {g : Nat} {w w' : World} (h : Just g w w') (i : Nat) (v : Value) : Just g w (w'.setCell ⟨g, i, none⟩ v) := by
 refine ⟨⟨h.1.os, h.1.tape, h.1.output, by rw [size_set]; exact h.1.size, fun k hk hne => ?_⟩, by rw [size_set]; exact h.2⟩
 exact (Below.heap_setCell w' ⟨g, i, none⟩ v k (fun e => hne (by rw [e]))).trans (h.1.block k hk hne)

theorem Just.drew {g : Nat} {w w' : World} (h : Just g w w') : Just g w w'.drew := ⟨⟨h.1.os, h.1.tape, h.1.output, h.1.size, h.1.block⟩, h.2⟩
theorem linked_skip (h n p : Nat) (hp : p < h) : linked h n (p + 2) = linked h n (p + 1) := by
 refine List.ext_getElem (by simp [linked]) fun i h1 h2 => ?_
 simp only [linked, List.getElem_map, List.getElem_range]
 by_cases hc : h <= i /\ i + 1 < p + 1
 · rw [if_pos hc, if_pos (by omega)]
 · rw [if_neg hc, if_neg (by omega)]
theorem just_below {g B : Nat} {w w' : World} (h : Just g w w') (hg : B <= g) (hw : B <= w.heap.size) : Below B w w' :=
 ⟨h.1.os, h.1.tape, h.1.output, h.1.size, fun k hk => h.1.block k (by omega) (fun e => by injection e with e; omega)⟩

theorem own_kept_at {w w' : World} {base g n c : Nat} {xs : List Int} (h : Own w base ⟨some ⟨g, 0, none⟩, n, c⟩ xs) (hk : w'.heap[g]? = w.heap[g]?) : Own w' base ⟨some ⟨g, 0, none⟩, n, c⟩ xs :=
 h.kept fun ad had => by
   injection had with had
   subst had
   exact hk

def Chained (w : World) (base g n h : Nat) (e : Ending) (w' : World) : Prop :=
 e = .returned (.int .u64 ((h : Int) + 1)) /\ Own w' base ⟨some ⟨g, 0, none⟩, n, n⟩ (linked h n n) /\ Just g w w'

set_option maxHeartbeats 1000000 in
theorem chain_c (w : World) (base g n h : Nat) (ho : Own w base ⟨some ⟨g, 0, none⟩, n, n⟩ (List.replicate n 0)) (h1 : h <= 1) (n1 : 2 <= n) (n2 : n <= 64) :
   Calls Tryz.prog 52 #[.slice (some ⟨g, 0, none⟩) n n, .int .i64 h] w (Chained w base g n h) := by
 have HO := lh ho
 clear ho
 go_enter Tryz.func52, Tryz.ntmps52
 go_wp2_with fail
 go_loopw [5] (fun i wr => ∃ p : Nat, i = .int .i64 ((p : Int) + 1) /\ h <= p /\ p < n /\ Own wr base ⟨some ⟨g, 0, none⟩, n, n⟩ (linked h n (p + 1)) /\ Just g w wr) (fun i _ => n - (intOf i).toNat)
 case atStart => exact ⟨h, rfl, Nat.le_refl _, by omega, by rw [linked_zero _ _ _ (Nat.le_refl _)]; exact HO.out, Just.refl g w⟩
 case round =>
   obtain ⟨p, rfl, hp, hpn, ho, hj⟩ := hrel
   have HP := lh ho
   have HJ := lh hj
   obtain ⟨g', hA, _, _, hc, hf⟩ := ho.at_ (k := p) (by rw [linked_len]; omega)
   injection hA with hA
   injection hA with hA
   subst hA
   clear ho hj
   by_cases hlt : p + 1 < n
   · go_wp2_with (go_at_call 20; refine (ref0_c _ _ (by omega) (by omega)).mono ?_; rintro e w' ⟨rfl, rfl⟩)
     go_roundw
     case rel =>
       refine ⟨p + 1, by go_num, by omega, by omega, ?_, HJ.out.set_ _ _⟩
       have := HP.out.set_ (k := p) rfl ((p : Int) + 2) (by omega)
       rw [linked_set h n p hp hlt] at this
       have e2 : (p : Int) + 1 + 1 = (p : Int) + 2 := by omega
       simpa only [e2] using this
     case measure => simp [intOf]; omega
   · obtain rfl : n = p + 1 := by omega
     clear hc hf
     go_wp2_with (go_at_call 20; refine (ref0_c _ _ (by omega) (by omega)).mono ?_; rintro e w' ⟨rfl, rfl⟩)
     go_ret
     exact ⟨rfl, HP.out, HJ.out⟩

def zeroM (K T M : Nat) : Memc.M := { e := 0, f := 0, li := List.replicate 3 0, pi := List.replicate T 0, h := 0, t := 0, lk := List.replicate M 0, nx := List.replicate M 0, sl := List.replicate (M * K) 0 }

theorem heap_nine (W : World) (b : Nat) (v0 v1 v2 v3 v4 v5 v6 v7 v8 : Value) (k : Nat) (hk : k ≠ b) : (((((((((W.setCell ⟨b, 0, none⟩ v0).setCell ⟨b, 1, none⟩ v1).setCell ⟨b, 2, none⟩ v2).setCell ⟨b, 3, none⟩ v3).setCell ⟨b, 4, none⟩ v4).setCell ⟨b, 5, none⟩ v5).setCell ⟨b, 6, none⟩ v6).setCell ⟨b, 7, none⟩ v7).setCell ⟨b, 8, none⟩ v8).heap[k]? = W.heap[k]? := by
 have e : ∀ (w : World) (i : Nat) (v : Value), (w.setCell ⟨b, i, none⟩ v).heap[k]? = w.heap[k]? := fun w i v => Below.heap_setCell w ⟨b, i, none⟩ v k hk
 rw [e, e, e, e, e, e, e, e, e]

theorem five_end {W wf : World} {base g : Nat} {r q : R} {z m : Memc.M} (h0 : Hold W base g r z) (hq : ∀ a, q.sl a = r.sl a)
   (hk : ∀ k, base <= k -> k ≠ g -> (∀ ad, (r.sl 7).A = some ad -> k ≠ ad.block) -> wf.heap[k]? = W.heap[k]?) (h7 : Own wf base (r.sl 7) m.lk)
   (hm : m.li = z.li /\ m.pi = z.pi /\ m.nx = z.nx /\ m.sl = z.sl) : Five wf base q m := by
 obtain ⟨hb, hg, h1, h2, h3, h4, hm0, ho, ha⟩ := h0
 refine ⟨fun a hl => ?_, fun a hl b hl' hne ad had ad' had' => ?_⟩
 · rw [hq]
   have other : ∀ a, la a -> a ≠ 7 -> m.area a = z.area a -> Own wf base (r.sl a) (m.area a) := fun a hl h7 he => by
     rw [he]
     refine (ho a hl).kept fun ad had => hk _ ((ho a hl).lt had).1 (ha a hl ad had).1 fun ad' had' => ?_
     exact ((ha a hl ad had).2 7 (.inr (.inr (.inl rfl))) (Ne.symm h7) ad' had').symm
   rcases hl with rfl | rfl | rfl | rfl | rfl
   · exact other 3 (.inl rfl) (by omega) hm.1
   · exact other 4 (.inr (.inl rfl)) (by omega) hm.2.1
   · exact h7
   · exact other 8 (.inr (.inr (.inr (.inl rfl)))) (by omega) hm.2.2.1
   · exact other 9 (.inr (.inr (.inr (.inr rfl)))) (by omega) hm.2.2.2
 · rw [hq] at had had'
   exact (ha b hl' ad' had').2 a hl hne ad had

theorem five_weaken {w : World} {base base' : Nat} {r : R} {m : Memc.M} (h : Five w base r m) (hb : base' <= base) : Five w base' r m :=
 ⟨fun a hl => (h.1 a hl).weaken hb, h.2⟩

theorem zeros_ok (n : Nat) : u64s (List.replicate n 0) := fun y hy => by rw [List.eq_of_mem_replicate hy]; exact ⟨Int.le_refl 0, by decide⟩
theorem newM_ok (k : Int) (K T M : Nat) (hM : M <= 64) : (newM k K T M).ok := by
 intro a
 by_cases ho : a < 1 \/ 9 < a
 · rw [area_no _ _ ho]; exact u64s_nil
 · have one : ∀ x : Int, 0 <= x /\ x <= 10 -> u64s [x] := fun x hx y hy => by rw [List.mem_singleton.1 hy]; omega
   rcases nine ho with rfl | rfl | rfl | rfl | rfl | rfl | rfl | rfl | rfl
   · exact one 0 (by omega)
   · refine one _ ?_; simp only [newM]; split <;> (try split) <;> omega
   · exact zeros_ok _
   · exact zeros_ok _
   · refine one _ ?_; simp only [newM]; split <;> omega
   · refine one _ ?_; simp only [newM]; split <;> omega
   · exact linked_ok _ _ _ (by omega)
   · exact zeros_ok _
   · exact zeros_ok _

def Newly (w : World) (m : Memc.M) (c : Int) (e : Ending) (w' : World) : Prop :=
 ∃ r : R, e = .returned (.tuple #[.agg #[.int .u64 r.e, .int .u64 r.f, .slice r.L.A r.L.n r.L.c, .slice r.P.A r.P.n r.P.c, .int .u64 r.h, .int .u64 r.t, .slice r.K.A r.K.n r.K.c, .slice r.X.A r.X.n r.X.c, .slice r.S.A r.S.n r.S.c], .int .i64 c]) /\ (r.e = m.e /\ r.f = m.f /\ r.h = m.h /\ r.t = m.t) /\ m.ok /\ Five w' w.heap.size r m /\ Below w.heap.size w w'

def Fresh5 (w : World) (m : Memc.M) (e : Ending) (w' : World) : Prop :=
 ∃ r : R, e = .returned (.agg #[.int .u64 r.e, .int .u64 r.f, .slice r.L.A r.L.n r.L.c, .slice r.P.A r.P.n r.P.c, .int .u64 r.h, .int .u64 r.t, .slice r.K.A r.K.n r.K.c, .slice r.X.A r.X.n r.X.c, .slice r.S.A r.S.n r.S.c]) /\ (r.e = m.e /\ r.f = m.f /\ r.h = m.h /\ r.t = m.t) /\ m.ok /\ Five w' w.heap.size r m /\ Below w.heap.size w w'
end Go.Proofs.YtffppdcpiieapaaGreat.Newc
