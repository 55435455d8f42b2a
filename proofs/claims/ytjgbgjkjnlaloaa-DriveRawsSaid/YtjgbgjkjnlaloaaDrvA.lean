/- Beginning a call of one access, by contract. -/
import Derived.Test.YtjgbgjkjnlaloaaProcB
import Derived.BigRegion
namespace Go.Proofs.Ytjgbgjkjnlaloaa.Drivec
open Go.RowKit Go.Proofs.Ytjgbgjkjnlaloaa.Memc Go.Proofs.Ytjgbgjkjnlaloaa.Procc
set_option linter.unusedVariables false
set_option maxRecDepth 100000

/-- where the rest of a list of accesses begins -/
def tailA (b off c : Nat) : Option Addr := if c = 1 then some ⟨b, off, none⟩ else some ⟨b, off + 5, none⟩
/-- what beginning a call of one access comes to -/
def Began (w : World) (gLL i b off n c : Nat) (cs : Array Value) (a : Acc) (e : Ending) (w' : World) : Prop :=
  ∃ P ga : Nat, e = .returned (.iface 145 (.pointer (some ⟨P, 0, none⟩))) ∧ Fresh w' P ga a ∧ w.heap.size ≤ P ∧ w.heap.size ≤ ga ∧
      Blk w' gLL 51 (cs.setIfInBounds i (.slice (tailA b off c) (n - 1) (c - 1))) ∧ Only (fun g => g = gLL) w w'

set_option maxHeartbeats 2000000 in
theorem begin_c (w : World) (gL gLL T lc i b off n c : Nat) (cs : Array Value) (k v d : Int) (a : Acc)
    (hl : Blk w gL 49 #[.slice (some ⟨gLL, 0, none⟩) T lc]) (hll : Blk w gLL 51 cs) (hi : i < T) (hT : T ≤ 8)
    (hc : cs[i]? = some (.slice (some ⟨b, off, none⟩) n c)) (hn : 0 < n) (hnc : n ≤ c) (hcm : c ≤ maxLen) (hb : b < w.heap.size) (hbl : ¬ b = gLL)
    (h0 : w.cell? ⟨b, off, none⟩ = some (.int .i64 a.d)) (h1 : w.cell? ⟨b, off + 1, none⟩ = some (.int .i64 a.ar)) (h2 : w.cell? ⟨b, off + 2, none⟩ = some (.int .i64 a.at_)) (h3 : w.cell? ⟨b, off + 3, none⟩ = some (.int .u64 a.old)) (h4 : w.cell? ⟨b, off + 4, none⟩ = some (.int .u64 a.new)) :
    Calls Try.prog 52 #[.int .i64 i, .agg #[.int .i64 k, .int .u32 v], .int .u32 d, .pointer (some ⟨gL, 0, none⟩)] w (Began w gLL i b off n c cs a) := by
  have hne : ¬ gL = gLL := Blk.ne hl hll (by decide)
  have hne' : ¬ gLL = gL := fun e => hne e.symm
  have hcl := hl.cell
  have hzl := hl.lt
  have hcell : w.cell? ⟨gLL, i, none⟩ = some (.slice (some ⟨b, off, none⟩) n c) := (hll.cell i).trans hc
  have hzll := hll.lt
  have hfll := hll.frozen
  have i0 : (0 : Int) ≤ i := by omega
  have i1 : (i : Int) < T := by omega
  have i2 : (T : Int) ≤ 8 := by omega
  have n1 : (0 : Int) < n := by omega
  have n2 : (1 : Int) ≤ n := by omega
  have n3 : (n : Int) ≤ c := by omega
  have n4 : (c : Int) ≤ 9223372036854775807 := by unfold maxLen at hcm; omega
  have n5 : n ≤ c := by omega
  have n6 : 1 ≤ n := by omega
  have n7 : 1 ≤ c := by omega
  have HLL := Lib.hid hll
  have HL := Lib.hid hl
  clear hl hll hc hcm hT hi hn
  go_enter Try.func52, Try.ntmps52
  go_wp2_with fail
  have L1 := Lib.hid ((HL.out.alloc (.cells #[.int .i64 k, .int .u32 v] 81)).alloc (.cells #[.int .i64 a.d, .int .i64 a.ar, .int .i64 a.at_, .int .u64 a.old, .int .u64 a.new] 27))
  have LL1 := Lib.hid ((HLL.out.alloc (.cells #[.int .i64 k, .int .u32 v] 81)).alloc (.cells #[.int .i64 a.d, .int .i64 a.ar, .int .i64 a.at_, .int .u64 a.old, .int .u64 a.new] 27))
  have A1 : Hid (Blk ((w.alloc (.cells #[.int .i64 k, .int .u32 v] 81)).alloc (.cells #[.int .i64 a.d, .int .i64 a.ar, .int .i64 a.at_, .int .u64 a.old, .int .u64 a.new] 27)) (w.heap.size + 1) 27 #[.int .i64 a.d, .int .i64 a.ar, .int .i64 a.at_, .int .u64 a.old, .int .u64 a.new]) := Lib.hid (blk_at (by simp))
  have O1 : Hid (Only (fun g => g = gLL) w ((w.alloc (.cells #[.int .i64 k, .int .u32 v] 81)).alloc (.cells #[.int .i64 a.d, .int .i64 a.ar, .int .i64 a.at_, .int .u64 a.old, .int .u64 a.new] 27))) := Lib.hid (((Only.refl _ _).alloc _).alloc _)
  have hcell1 : Hid ((((w.alloc (.cells #[.int .i64 k, .int .u32 v] 81)).alloc (.cells #[.int .i64 a.d, .int .i64 a.ar, .int .i64 a.at_, .int .u64 a.old, .int .u64 a.new] 27))).cell? ⟨gLL, i, none⟩ = some (.slice (some ⟨b, off, none⟩) n c)) := Lib.hid ((((Below.refl w.heap.size w).alloc (Nat.le_refl _) _).alloc (by simp) _ |>.cell (p := ⟨gLL, i, none⟩) hzll).trans hcell)
  clear hcl hcell hfll h0 h1 h2 h3 h4
  generalize ((w.alloc (.cells #[.int .i64 k, .int .u32 v] 81)).alloc (.cells #[.int .i64 a.d, .int .i64 a.ar, .int .i64 a.at_, .int .u64 a.old, .int .u64 a.new] 27)) = V at L1 LL1 A1 O1 hcell1 ⊢
  have hcl := L1.out.cell
  have hcell := hcell1.out
  have hfll := LL1.out.frozen
  go_region
  have A2 : Hid (Blk ((V.setCell ⟨gLL, i, none⟩ (.slice (if c = 1 then some ⟨b, off, none⟩ else some ⟨b, off + 5, none⟩) (n - 1) (c - 1))).drew) (w.heap.size + 1) 27 #[.int .i64 a.d, .int .i64 a.ar, .int .i64 a.at_, .int .u64 a.old, .int .u64 a.new]) := Lib.hid ((A1.out.far (p := ⟨gLL, i, none⟩) (show ¬ w.heap.size + 1 = gLL by omega) _).drew)
  have LL2 : Hid (Blk ((V.setCell ⟨gLL, i, none⟩ (.slice (if c = 1 then some ⟨b, off, none⟩ else some ⟨b, off + 5, none⟩) (n - 1) (c - 1))).drew) gLL 51 (cs.setIfInBounds i (.slice (if c = 1 then some ⟨b, off, none⟩ else some ⟨b, off + 5, none⟩) (n - 1) (c - 1)))) := Lib.hid ((LL1.out.set_ i _).drew)
  have O2 : Hid (Only (fun g => g = gLL) w ((V.setCell ⟨gLL, i, none⟩ (.slice (if c = 1 then some ⟨b, off, none⟩ else some ⟨b, off + 5, none⟩) (n - 1) (c - 1))).drew)) := Lib.hid ((O1.out.set_ ⟨gLL, i, none⟩ (.inl rfl) _).drew)
  generalize ((V.setCell ⟨gLL, i, none⟩ (.slice (if c = 1 then some ⟨b, off, none⟩ else some ⟨b, off + 5, none⟩) (n - 1) (c - 1))).drew) = V2 at A2 LL2 O2 ⊢
  generalize hA : (if c = 1 then some (⟨b, off, none⟩ : Addr) else some ⟨b, off + 5, none⟩) = A' at LL2 ⊢
  have HA := Lib.hid hA
  clear hA
  have hc2 := A2.out.cell
  have hz2 := A2.out.lt
  have hs2 := O2.out.size
  clear hcl hcell hfll
  go_wp2_with (go_at_call 53; (with_reducible refine (single_c _ a).mono ?_); rintro e w3 ⟨rfl, hf3, hb3⟩; have F3 := Lib.hid hf3; have B3 := Lib.hid hb3; clear hf3 hb3)
  go_ret
  have hA := HA.out
  subst hA
  exact ⟨_, _, rfl, F3.out, by omega, by omega, LL2.out.below B3.out LL2.out.lt, O2.out.next (Only.of_below (P := fun _ => False) B3.out (Nat.le_refl _)) (fun k hk h => h.elim)⟩
end Go.Proofs.Ytjgbgjkjnlaloaa.Drivec
