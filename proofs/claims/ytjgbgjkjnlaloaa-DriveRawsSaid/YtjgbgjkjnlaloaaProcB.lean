/- A machine of one access, by contract: what begins it, what it asks for, and how it comes out. -/
import Derived.Test.YtjgbgjkjnlaloaaRow
namespace Go.Proofs.Ytjgbgjkjnlaloaa.Procc
open Go.RowKit Go.Proofs.Ytjgbgjkjnlaloaa.Memc
set_option linter.unusedVariables false
set_option maxRecDepth 100000

/-- the machine in block P is just begun, it asks for a -/
def Fresh (w : World) (P ga : Nat) (a : Acc) : Prop := Blk w P 148 #[.func (.func 86) #[] #[.pointer (some ⟨ga, 0, none⟩)], .slice none 0 0, .bool false, .bool false, .int .i64 0, .int .u32 0] ∧ Blk w ga 27 #[.int .i64 a.d, .int .i64 a.ar, .int .i64 a.at_, .int .u64 a.old, .int .u64 a.new]
/-- it has asked -/
def Waits (w : World) (P ga : Nat) (a : Acc) : Prop := Blk w P 148 #[.func (.func 86) #[] #[.pointer (some ⟨ga, 0, none⟩)], .slice none 0 0, .bool true, .bool false, .int .i64 0, .int .u32 0] ∧ Blk w ga 27 #[.int .i64 a.d, .int .i64 a.ar, .int .i64 a.at_, .int .u64 a.old, .int .u64 a.new]
/-- it is over -/
def Over (w : World) (P : Nat) (cd ou : Int) : Prop := Blk w P 148 #[.nilFunc, .slice none 0 0, .bool false, .bool true, .int .i64 cd, .int .u32 ou]

theorem nop_fn : ∀ (fn : Fn) (first cap : Array Value) (w : World), (Instr.makeFunc fn first cap).run Try.prog w = .ok (.func fn first cap) w := fun _ _ _ _ => rfl

theorem end_c (w : World) (P : Nat) (r f : Value) (ask ov : Bool) (cd ou : Int) (A : Option Addr) (n c : Nat) (run : Fn) (c1 c2 : Array Value) (hq : Blk w P 148 #[(.func run c1 c2), (.slice A n c), .bool ask, .bool ov, .int .i64 cd, .int .u32 ou]) :
    Calls Try.prog 157 #[.pointer (some ⟨P, 0, none⟩)] w fun e w' => e = .returned (.tuple #[]) ∧ Blk w' P 148 #[.nilFunc, .slice none 0 0, .bool ask, .bool true, .int .i64 cd, .int .u32 ou] ∧ Only (fun g => g = P) w w' := by
  have hcq := hq.cell
  have hfq := hq.frozen
  have hzq := hq.lt
  have HQ := Lib.hid hq
  clear hq
  go_enter Try.func157, Try.ntmps157
  go_wp2
  go_end0
  exact ⟨rfl, (by have h_ := (((HQ.out).set_ 3 (.bool true)).set_ 0 (.nilFunc)).set_ 1 (.slice none 0 0); simpa only [List.setIfInBounds_toArray, List.set_cons_zero, List.set_cons_succ] using h_), ((((Only.refl (fun g => g = P) w)).set_ ⟨P, 3, none⟩ (.inl rfl) _).set_ ⟨P, 0, none⟩ (.inl rfl) _).set_ ⟨P, 1, none⟩ (.inl rfl) _⟩

set_option maxHeartbeats 1000000 in
theorem next_ask (w : World) (P ga : Nat) (a : Acc) (hm : Fresh w P ga a) :
    Calls Try.prog 153 #[.pointer (some ⟨P, 0, none⟩), .int .u64 0, .bool false] w fun e w' => e = .returned (.tuple #[.agg #[.int .i64 a.d, .int .i64 a.ar, .int .i64 a.at_, .int .u64 a.old, .int .u64 a.new], .bool true]) ∧ Waits w' P ga a ∧ Only (fun g => g = P) w w' := by
  obtain ⟨hq, ha⟩ := hm
  have hcq := hq.cell
  have hfq := hq.frozen
  have hzq := hq.lt
  have HQ := Lib.hid hq
  have HA := Lib.hid ha
  clear hq ha
  have BX : Hid (Blk (w.alloc (.cells #[.int .i64 0, .int .i64 0, .int .i64 0, .int .u64 0, .int .u64 0] 27)) w.heap.size 27 #[.int .i64 0, .int .i64 0, .int .i64 0, .int .u64 0, .int .u64 0]) := Lib.hid (Blk.new _ _ _)
  go_enter Try.func153, Try.ntmps153
  go_wp2_with fail
  have BQ := Lib.hid (HQ.out.alloc (.cells #[.int .i64 0, .int .i64 0, .int .i64 0, .int .u64 0, .int .u64 0] 27))
  have BA := Lib.hid (HA.out.alloc (.cells #[.int .i64 0, .int .i64 0, .int .i64 0, .int .u64 0, .int .u64 0] 27))
  have OV : Hid (Only (fun g => g = P) w (w.alloc (.cells #[.int .i64 0, .int .i64 0, .int .i64 0, .int .u64 0, .int .u64 0] 27))) := Lib.hid ((Only.refl _ _).alloc _)
  have hz1 : w.heap.size < (w.alloc (.cells #[.int .i64 0, .int .i64 0, .int .i64 0, .int .u64 0, .int .u64 0] 27)).heap.size := by simp
  generalize w.alloc (.cells #[.int .i64 0, .int .i64 0, .int .i64 0, .int .u64 0, .int .u64 0] 27) = V at BX BQ BA OV hz1 ⊢
  refine (through_ask V P ga none 0 a false false 0 0 BQ.out BA.out).mono ?_
  rintro e w1 ⟨rfl, hq1, ho1⟩
  have Q1 := Lib.hid hq1
  have X1 := Lib.hid (BX.out.only ho1 (by omega))
  have hne : ¬ ga = P := Blk.ne BA.out BQ.out (by decide)
  have A1 := Lib.hid (BA.out.only ho1 hne)
  have O1 : Hid (Only (fun g => g = P) w w1) := Lib.hid (OV.out.next ho1 (fun k hk hg => hg))
  have hxq := Q1.out.cell
  have hxqf := Q1.out.frozen
  have hxx := X1.out.cell
  have hxxf := X1.out.frozen
  have n1 : ¬ P = w.heap.size := by omega
  have n2 : ¬ w.heap.size = P := by omega
  clear hq1 ho1 hcq hfq
  go_wp2
  go_region
  have XX : Hid (Blk ((((((((((((w1.setCell ⟨w.heap.size, 0, none⟩ (.int .i64 a.d)).setCell ⟨w.heap.size, 1, none⟩ (.int .i64 a.ar)).setCell ⟨w.heap.size, 2, none⟩ (.int .i64 a.at_)).setCell ⟨w.heap.size, 3, none⟩ (.int .u64 a.old)).setCell ⟨w.heap.size, 4, none⟩ (.int .u64 a.new)).setCell ⟨P, 2, none⟩ (.bool true)).setCell ⟨w.heap.size, 0, none⟩ (.int .i64 a.d)).setCell ⟨w.heap.size, 1, none⟩ (.int .i64 a.ar)).setCell ⟨w.heap.size, 2, none⟩ (.int .i64 a.at_)).setCell ⟨w.heap.size, 3, none⟩ (.int .u64 a.old)).setCell ⟨w.heap.size, 4, none⟩ (.int .u64 a.new)).drew) w.heap.size 27 #[.int .i64 a.d, .int .i64 a.ar, .int .i64 a.at_, .int .u64 a.old, .int .u64 a.new]) := Lib.hid (by have h_ := ((((((((((((X1.out).set_ 0 (.int .i64 a.d)).set_ 1 (.int .i64 a.ar)).set_ 2 (.int .i64 a.at_)).set_ 3 (.int .u64 a.old)).set_ 4 (.int .u64 a.new)).far (p := ⟨P, 2, none⟩) (show ¬ w.heap.size = P by omega) (.bool true)).set_ 0 (.int .i64 a.d)).set_ 1 (.int .i64 a.ar)).set_ 2 (.int .i64 a.at_)).set_ 3 (.int .u64 a.old)).set_ 4 (.int .u64 a.new)).drew; simpa only [List.setIfInBounds_toArray, List.set_cons_zero, List.set_cons_succ] using h_)
  have QQ : Hid (Blk ((((((((((((w1.setCell ⟨w.heap.size, 0, none⟩ (.int .i64 a.d)).setCell ⟨w.heap.size, 1, none⟩ (.int .i64 a.ar)).setCell ⟨w.heap.size, 2, none⟩ (.int .i64 a.at_)).setCell ⟨w.heap.size, 3, none⟩ (.int .u64 a.old)).setCell ⟨w.heap.size, 4, none⟩ (.int .u64 a.new)).setCell ⟨P, 2, none⟩ (.bool true)).setCell ⟨w.heap.size, 0, none⟩ (.int .i64 a.d)).setCell ⟨w.heap.size, 1, none⟩ (.int .i64 a.ar)).setCell ⟨w.heap.size, 2, none⟩ (.int .i64 a.at_)).setCell ⟨w.heap.size, 3, none⟩ (.int .u64 a.old)).setCell ⟨w.heap.size, 4, none⟩ (.int .u64 a.new)).drew) P 148 #[.func (.func 86) #[] #[.pointer (some ⟨ga, 0, none⟩)], .slice none 0 0, .bool true, .bool false, .int .i64 0, .int .u32 0]) := Lib.hid (by have h_ := ((((((((((((Q1.out).far (p := ⟨w.heap.size, 0, none⟩) (show ¬ P = w.heap.size by omega) (.int .i64 a.d)).far (p := ⟨w.heap.size, 1, none⟩) (show ¬ P = w.heap.size by omega) (.int .i64 a.ar)).far (p := ⟨w.heap.size, 2, none⟩) (show ¬ P = w.heap.size by omega) (.int .i64 a.at_)).far (p := ⟨w.heap.size, 3, none⟩) (show ¬ P = w.heap.size by omega) (.int .u64 a.old)).far (p := ⟨w.heap.size, 4, none⟩) (show ¬ P = w.heap.size by omega) (.int .u64 a.new)).set_ 2 (.bool true)).far (p := ⟨w.heap.size, 0, none⟩) (show ¬ P = w.heap.size by omega) (.int .i64 a.d)).far (p := ⟨w.heap.size, 1, none⟩) (show ¬ P = w.heap.size by omega) (.int .i64 a.ar)).far (p := ⟨w.heap.size, 2, none⟩) (show ¬ P = w.heap.size by omega) (.int .i64 a.at_)).far (p := ⟨w.heap.size, 3, none⟩) (show ¬ P = w.heap.size by omega) (.int .u64 a.old)).far (p := ⟨w.heap.size, 4, none⟩) (show ¬ P = w.heap.size by omega) (.int .u64 a.new)).drew; simpa only [List.setIfInBounds_toArray, List.set_cons_zero, List.set_cons_succ] using h_)
  have n3 : ¬ ga = w.heap.size := by have := HA.out.lt; omega
  have AA : Hid (Blk ((((((((((((w1.setCell ⟨w.heap.size, 0, none⟩ (.int .i64 a.d)).setCell ⟨w.heap.size, 1, none⟩ (.int .i64 a.ar)).setCell ⟨w.heap.size, 2, none⟩ (.int .i64 a.at_)).setCell ⟨w.heap.size, 3, none⟩ (.int .u64 a.old)).setCell ⟨w.heap.size, 4, none⟩ (.int .u64 a.new)).setCell ⟨P, 2, none⟩ (.bool true)).setCell ⟨w.heap.size, 0, none⟩ (.int .i64 a.d)).setCell ⟨w.heap.size, 1, none⟩ (.int .i64 a.ar)).setCell ⟨w.heap.size, 2, none⟩ (.int .i64 a.at_)).setCell ⟨w.heap.size, 3, none⟩ (.int .u64 a.old)).setCell ⟨w.heap.size, 4, none⟩ (.int .u64 a.new)).drew) ga 27 #[.int .i64 a.d, .int .i64 a.ar, .int .i64 a.at_, .int .u64 a.old, .int .u64 a.new]) := Lib.hid (((((((((((((A1.out).far (p := ⟨w.heap.size, 0, none⟩) (show ¬ ga = w.heap.size by omega) (.int .i64 a.d)).far (p := ⟨w.heap.size, 1, none⟩) (show ¬ ga = w.heap.size by omega) (.int .i64 a.ar)).far (p := ⟨w.heap.size, 2, none⟩) (show ¬ ga = w.heap.size by omega) (.int .i64 a.at_)).far (p := ⟨w.heap.size, 3, none⟩) (show ¬ ga = w.heap.size by omega) (.int .u64 a.old)).far (p := ⟨w.heap.size, 4, none⟩) (show ¬ ga = w.heap.size by omega) (.int .u64 a.new)).far (p := ⟨P, 2, none⟩) (show ¬ ga = P by omega) (.bool true)).far (p := ⟨w.heap.size, 0, none⟩) (show ¬ ga = w.heap.size by omega) (.int .i64 a.d)).far (p := ⟨w.heap.size, 1, none⟩) (show ¬ ga = w.heap.size by omega) (.int .i64 a.ar)).far (p := ⟨w.heap.size, 2, none⟩) (show ¬ ga = w.heap.size by omega) (.int .i64 a.at_)).far (p := ⟨w.heap.size, 3, none⟩) (show ¬ ga = w.heap.size by omega) (.int .u64 a.old)).far (p := ⟨w.heap.size, 4, none⟩) (show ¬ ga = w.heap.size by omega) (.int .u64 a.new)).drew)
  have OO : Hid (Only (fun g => g = P) w ((((((((((((w1.setCell ⟨w.heap.size, 0, none⟩ (.int .i64 a.d)).setCell ⟨w.heap.size, 1, none⟩ (.int .i64 a.ar)).setCell ⟨w.heap.size, 2, none⟩ (.int .i64 a.at_)).setCell ⟨w.heap.size, 3, none⟩ (.int .u64 a.old)).setCell ⟨w.heap.size, 4, none⟩ (.int .u64 a.new)).setCell ⟨P, 2, none⟩ (.bool true)).setCell ⟨w.heap.size, 0, none⟩ (.int .i64 a.d)).setCell ⟨w.heap.size, 1, none⟩ (.int .i64 a.ar)).setCell ⟨w.heap.size, 2, none⟩ (.int .i64 a.at_)).setCell ⟨w.heap.size, 3, none⟩ (.int .u64 a.old)).setCell ⟨w.heap.size, 4, none⟩ (.int .u64 a.new)).drew)) := Lib.hid (((((((((((((O1.out).set_ ⟨w.heap.size, 0, none⟩ (.inr (Nat.le_refl _)) _).set_ ⟨w.heap.size, 1, none⟩ (.inr (Nat.le_refl _)) _).set_ ⟨w.heap.size, 2, none⟩ (.inr (Nat.le_refl _)) _).set_ ⟨w.heap.size, 3, none⟩ (.inr (Nat.le_refl _)) _).set_ ⟨w.heap.size, 4, none⟩ (.inr (Nat.le_refl _)) _).set_ ⟨P, 2, none⟩ (.inl rfl) _).set_ ⟨w.heap.size, 0, none⟩ (.inr (Nat.le_refl _)) _).set_ ⟨w.heap.size, 1, none⟩ (.inr (Nat.le_refl _)) _).set_ ⟨w.heap.size, 2, none⟩ (.inr (Nat.le_refl _)) _).set_ ⟨w.heap.size, 3, none⟩ (.inr (Nat.le_refl _)) _).set_ ⟨w.heap.size, 4, none⟩ (.inr (Nat.le_refl _)) _).drew)
  generalize ((((((((((((w1.setCell ⟨w.heap.size, 0, none⟩ (.int .i64 a.d)).setCell ⟨w.heap.size, 1, none⟩ (.int .i64 a.ar)).setCell ⟨w.heap.size, 2, none⟩ (.int .i64 a.at_)).setCell ⟨w.heap.size, 3, none⟩ (.int .u64 a.old)).setCell ⟨w.heap.size, 4, none⟩ (.int .u64 a.new)).setCell ⟨P, 2, none⟩ (.bool true)).setCell ⟨w.heap.size, 0, none⟩ (.int .i64 a.d)).setCell ⟨w.heap.size, 1, none⟩ (.int .i64 a.ar)).setCell ⟨w.heap.size, 2, none⟩ (.int .i64 a.at_)).setCell ⟨w.heap.size, 3, none⟩ (.int .u64 a.old)).setCell ⟨w.heap.size, 4, none⟩ (.int .u64 a.new)).drew) = W5 at XX QQ AA OO ⊢
  have hx5 := XX.out.cell
  clear hxq hxqf hxx hxxf
  go_wp2
  refine bodyPost_ret (v := .tuple #[.agg #[.int .i64 a.d, .int .i64 a.ar, .int .i64 a.at_, .int .u64 a.old, .int .u64 a.new], .bool true]) (by simp [results, Try.results153, go_sem, hx5]) rfl ⟨rfl, ⟨QQ.out, AA.out⟩, OO.out⟩

set_option maxHeartbeats 2000000 in
theorem next_tell (w : World) (P ga : Nat) (a : Acc) (was : Int) (dn : Bool) (hm : Waits w P ga a) :
    Calls Try.prog 153 #[.pointer (some ⟨P, 0, none⟩), .int .u64 was, .bool dn] w fun e w' => e = .returned (.tuple #[.agg #[.int .i64 0, .int .i64 0, .int .i64 0, .int .u64 0, .int .u64 0], .bool false]) ∧ Over w' P 0 (num dn) ∧ Only (fun g => g = P) w w' := by
  obtain ⟨hq, ha⟩ := hm
  have hne : ¬ ga = P := Blk.ne ha hq (by decide)
  obtain ⟨i0, hi0, hz0, hz1, hz2⟩ := info_parts finding_cell
  have hcq := hq.cell
  have hfq := hq.frozen
  have hzq := hq.lt
  have HQ := Lib.hid hq
  have HA := Lib.hid ha
  clear hq ha
  have BX : Hid (Blk ((w.alloc (.cells #[.int .i64 0, .int .i64 0, .int .i64 0, .int .u64 0, .int .u64 0] 27)).alloc (.cells #[.int .u64 was, .bool dn] 203)) w.heap.size 27 #[.int .i64 0, .int .i64 0, .int .i64 0, .int .u64 0, .int .u64 0]) := Lib.hid ((Blk.new _ _ _).alloc _)
  have BF : Hid (Blk ((w.alloc (.cells #[.int .i64 0, .int .i64 0, .int .i64 0, .int .u64 0, .int .u64 0] 27)).alloc (.cells #[.int .u64 was, .bool dn] 203)) (w.heap.size + 1) 203 #[.int .u64 was, .bool dn]) := Lib.hid (blk_at (by simp))
  have BQ := Lib.hid ((HQ.out.alloc (.cells #[.int .i64 0, .int .i64 0, .int .i64 0, .int .u64 0, .int .u64 0] 27)).alloc (.cells #[.int .u64 was, .bool dn] 203))
  have BA := Lib.hid ((HA.out.alloc (.cells #[.int .i64 0, .int .i64 0, .int .i64 0, .int .u64 0, .int .u64 0] 27)).alloc (.cells #[.int .u64 was, .bool dn] 203))
  have OV : Hid (Only (fun g => g = P) w ((w.alloc (.cells #[.int .i64 0, .int .i64 0, .int .i64 0, .int .u64 0, .int .u64 0] 27)).alloc (.cells #[.int .u64 was, .bool dn] 203))) := Lib.hid (((Only.refl _ _).alloc _).alloc _)
  have hnews : ∀ (j : Nat) (u : Value), ([.int .u64 was, .bool dn] : List Value)[j]? = some u → (((w.alloc (.cells #[.int .i64 0, .int .i64 0, .int .i64 0, .int .u64 0, .int .u64 0] 27)).alloc (.cells #[.int .u64 was, .bool dn] 203))).cell? ⟨w.heap.size + 1, j, none⟩ = some u := fun j u hj => (BF.out.cell j).trans (by simpa using hj)
  have HNW := Lib.hid hnews
  have hq1 : P < w.heap.size + 1 := by omega
  clear hnews
  go_enter Try.func153, Try.ntmps153
  go_wp2_with (at_builtin; refine wpList_app1 rfl _ _ 146 rfl w.heap.size 203 i0 _ 2 16 Try.underlying146 hi0 hz0 hz1 hz2 rfl (by decide) ⟨none, 0, 0⟩ 0 [] rfl (row_nil _ _ _ _) (w.heap.size + 1) [.int .u64 was, .bool dn] rfl rfl HNW.out (by simp [Value.oneCell']) (by decide) (by decide) (by simp; omega) ?_; intro s1 w1 hr1 ho1; go_must (have R1 := Lib.hid hr1; have Q1 := Lib.hid (BQ.out.only ho1 (fun hb => by obtain ⟨ad, h, _⟩ := hb; cases h)); have A1 := Lib.hid (BA.out.only ho1 (fun hb => by obtain ⟨ad, h, _⟩ := hb; cases h)); have X1 := Lib.hid (BX.out.only ho1 (fun hb => by obtain ⟨ad, h, _⟩ := hb; cases h)); have O1 : Hid (Only (fun g => g = P) w w1) := Lib.hid (OV.out.next ho1 (fun k hk hb => by obtain ⟨ad, h, _⟩ := hb; cases h)); have hq1c := Q1.out.cell; have hq1f := Q1.out.frozen); clear hr1 ho1)
  have Q2 : Hid (Blk (w1.setCell ⟨P, 1, none⟩ (.slice s1.A s1.n s1.c)) P 148 #[.func (.func 86) #[] #[.pointer (some ⟨ga, 0, none⟩)], .slice s1.A s1.n s1.c, .bool true, .bool false, .int .i64 0, .int .u32 0]) := Lib.hid (by have h_ := (Q1.out).set_ 1 (.slice s1.A s1.n s1.c); simpa only [List.setIfInBounds_toArray, List.set_cons_zero, List.set_cons_succ] using h_)
  have A2 := Lib.hid (A1.out.far (p := ⟨P, 1, none⟩) hne (.slice s1.A s1.n s1.c))
  have X2 := Lib.hid (X1.out.far (p := ⟨P, 1, none⟩) (show ¬ w.heap.size = P by omega) (.slice s1.A s1.n s1.c))
  have R2 := Lib.hid (R1.out.kept (w' := w1.setCell ⟨P, 1, none⟩ (.slice s1.A s1.n s1.c)) (fun g hg => Below.heap_setCell _ _ _ _ (R1.out.ne Q1.out (by decide) g hg)))
  have O2 := Lib.hid (O1.out.set_ ⟨P, 1, none⟩ (.inl rfl) (.slice s1.A s1.n s1.c))
  generalize w1.setCell ⟨P, 1, none⟩ (.slice s1.A s1.n s1.c) = V at Q2 A2 X2 R2 O2 ⊢
  have hsn := R2.out.n_.1
  obtain ⟨fb, hA, hlo, hhi, hcell, hfz⟩ := R2.out.at_ (by decide)
  obtain ⟨sA, sn, sc⟩ := s1
  simp only at hA hsn
  subst hA
  subst hsn
  have hc0 : V.cell? ⟨fb, 0, none⟩ = some (.int .u64 was) := hcell 0 (by decide)
  have hc1 : V.cell? ⟨fb, 0 + 1, none⟩ = some (.bool dn) := hcell 1 (by decide)
  have C0 := Lib.hid hc0
  have C1 := Lib.hid hc1
  clear hc0 hc1 hcell hfz hq1c hq1f hcq hfq
  refine (through_tell V P ga fb 0 sc a true false 0 0 was dn Q2.out A2.out C0.out C1.out).mono ?_
  rintro e w3 ⟨rfl, hq3, ho3⟩
  have hzX := X2.out.lt
  have Q3 := Lib.hid hq3
  have X3 := Lib.hid (X2.out.only ho3 (by omega))
  have O3 : Hid (Only (fun g => g = P) w w3) := Lib.hid (O2.out.next ho3 (fun k hk hg => hg))
  have hxq := Q3.out.cell
  have hxqf := Q3.out.frozen
  have hxx := X3.out.cell
  have hxxf := X3.out.frozen
  have n1 : ¬ P = w.heap.size := by omega
  have n2 : ¬ w.heap.size = P := by omega
  clear hq3 ho3
  go_wp2_with fail
  have X4 : Hid (Blk ((((((w3.setCell ⟨w.heap.size, 0, none⟩ (.int .i64 0)).setCell ⟨w.heap.size, 1, none⟩ (.int .i64 0)).setCell ⟨w.heap.size, 2, none⟩ (.int .i64 0)).setCell ⟨w.heap.size, 3, none⟩ (.int .u64 0)).setCell ⟨w.heap.size, 4, none⟩ (.int .u64 0)).setCell ⟨P, 2, none⟩ (.bool false)) w.heap.size 27 #[.int .i64 0, .int .i64 0, .int .i64 0, .int .u64 0, .int .u64 0]) := Lib.hid (by have h_ := ((((((X3.out).set_ 0 (.int .i64 0)).set_ 1 (.int .i64 0)).set_ 2 (.int .i64 0)).set_ 3 (.int .u64 0)).set_ 4 (.int .u64 0)).far (p := ⟨P, 2, none⟩) (show ¬ w.heap.size = P by omega) (.bool false); simpa only [List.setIfInBounds_toArray, List.set_cons_zero, List.set_cons_succ] using h_)
  have Q4 : Hid (Blk ((((((w3.setCell ⟨w.heap.size, 0, none⟩ (.int .i64 0)).setCell ⟨w.heap.size, 1, none⟩ (.int .i64 0)).setCell ⟨w.heap.size, 2, none⟩ (.int .i64 0)).setCell ⟨w.heap.size, 3, none⟩ (.int .u64 0)).setCell ⟨w.heap.size, 4, none⟩ (.int .u64 0)).setCell ⟨P, 2, none⟩ (.bool false)) P 148 #[.func (.func 86) #[] #[.pointer (some ⟨ga, 0, none⟩)], (.slice (some ⟨fb, 0, none⟩) 1 sc), .bool false, .bool false, .int .i64 0, .int .u32 (num dn)]) := Lib.hid (by have h_ := ((((((Q3.out).far (p := ⟨w.heap.size, 0, none⟩) (show ¬ P = w.heap.size by omega) (.int .i64 0)).far (p := ⟨w.heap.size, 1, none⟩) (show ¬ P = w.heap.size by omega) (.int .i64 0)).far (p := ⟨w.heap.size, 2, none⟩) (show ¬ P = w.heap.size by omega) (.int .i64 0)).far (p := ⟨w.heap.size, 3, none⟩) (show ¬ P = w.heap.size by omega) (.int .u64 0)).far (p := ⟨w.heap.size, 4, none⟩) (show ¬ P = w.heap.size by omega) (.int .u64 0)).set_ 2 (.bool false); simpa only [List.setIfInBounds_toArray, List.set_cons_zero, List.set_cons_succ] using h_)
  have O4 : Hid (Only (fun g => g = P) w ((((((w3.setCell ⟨w.heap.size, 0, none⟩ (.int .i64 0)).setCell ⟨w.heap.size, 1, none⟩ (.int .i64 0)).setCell ⟨w.heap.size, 2, none⟩ (.int .i64 0)).setCell ⟨w.heap.size, 3, none⟩ (.int .u64 0)).setCell ⟨w.heap.size, 4, none⟩ (.int .u64 0)).setCell ⟨P, 2, none⟩ (.bool false))) := Lib.hid (((((((O3.out).set_ ⟨w.heap.size, 0, none⟩ (.inr (Nat.le_refl _)) _).set_ ⟨w.heap.size, 1, none⟩ (.inr (Nat.le_refl _)) _).set_ ⟨w.heap.size, 2, none⟩ (.inr (Nat.le_refl _)) _).set_ ⟨w.heap.size, 3, none⟩ (.inr (Nat.le_refl _)) _).set_ ⟨w.heap.size, 4, none⟩ (.inr (Nat.le_refl _)) _).set_ ⟨P, 2, none⟩ (.inl rfl) _)
  generalize ((((((w3.setCell ⟨w.heap.size, 0, none⟩ (.int .i64 0)).setCell ⟨w.heap.size, 1, none⟩ (.int .i64 0)).setCell ⟨w.heap.size, 2, none⟩ (.int .i64 0)).setCell ⟨w.heap.size, 3, none⟩ (.int .u64 0)).setCell ⟨w.heap.size, 4, none⟩ (.int .u64 0)).setCell ⟨P, 2, none⟩ (.bool false)) = W4 at X4 Q4 O4 ⊢
  clear hxq hxqf hxx hxxf
  refine (end_c W4 P undef undef false false 0 (num dn) _ _ _ _ _ _ Q4.out).mono ?_
  rintro e w5 ⟨rfl, hq5, ho5⟩
  have Q5 := Lib.hid hq5
  have X5 := Lib.hid (X4.out.only ho5 (by omega))
  have O5 : Hid (Only (fun g => g = P) w w5) := Lib.hid (O4.out.next ho5 (fun k hk hg => hg))
  have hxq := Q5.out.cell
  have hxqf := Q5.out.frozen
  have hxx := X5.out.cell
  have hxxf := X5.out.frozen
  clear hq5 ho5
  go_wp2
  go_region
  have XX : Hid (Blk ((((((w5.setCell ⟨w.heap.size, 0, none⟩ (.int .i64 0)).setCell ⟨w.heap.size, 1, none⟩ (.int .i64 0)).setCell ⟨w.heap.size, 2, none⟩ (.int .i64 0)).setCell ⟨w.heap.size, 3, none⟩ (.int .u64 0)).setCell ⟨w.heap.size, 4, none⟩ (.int .u64 0)).drew) w.heap.size 27 #[.int .i64 0, .int .i64 0, .int .i64 0, .int .u64 0, .int .u64 0]) := Lib.hid (by have h_ := ((((((X5.out).set_ 0 (.int .i64 0)).set_ 1 (.int .i64 0)).set_ 2 (.int .i64 0)).set_ 3 (.int .u64 0)).set_ 4 (.int .u64 0)).drew; simpa only [List.setIfInBounds_toArray, List.set_cons_zero, List.set_cons_succ] using h_)
  have QQ : Hid (Over (((((((w5.setCell ⟨w.heap.size, 0, none⟩ (.int .i64 0)).setCell ⟨w.heap.size, 1, none⟩ (.int .i64 0)).setCell ⟨w.heap.size, 2, none⟩ (.int .i64 0)).setCell ⟨w.heap.size, 3, none⟩ (.int .u64 0)).setCell ⟨w.heap.size, 4, none⟩ (.int .u64 0)).drew)) P 0 (num dn)) := Lib.hid (((((((Q5.out).far (p := ⟨w.heap.size, 0, none⟩) (show ¬ P = w.heap.size by omega) (.int .i64 0)).far (p := ⟨w.heap.size, 1, none⟩) (show ¬ P = w.heap.size by omega) (.int .i64 0)).far (p := ⟨w.heap.size, 2, none⟩) (show ¬ P = w.heap.size by omega) (.int .i64 0)).far (p := ⟨w.heap.size, 3, none⟩) (show ¬ P = w.heap.size by omega) (.int .u64 0)).far (p := ⟨w.heap.size, 4, none⟩) (show ¬ P = w.heap.size by omega) (.int .u64 0)).drew)
  have OO : Hid (Only (fun g => g = P) w ((((((w5.setCell ⟨w.heap.size, 0, none⟩ (.int .i64 0)).setCell ⟨w.heap.size, 1, none⟩ (.int .i64 0)).setCell ⟨w.heap.size, 2, none⟩ (.int .i64 0)).setCell ⟨w.heap.size, 3, none⟩ (.int .u64 0)).setCell ⟨w.heap.size, 4, none⟩ (.int .u64 0)).drew)) := Lib.hid (((((((O5.out).set_ ⟨w.heap.size, 0, none⟩ (.inr (Nat.le_refl _)) _).set_ ⟨w.heap.size, 1, none⟩ (.inr (Nat.le_refl _)) _).set_ ⟨w.heap.size, 2, none⟩ (.inr (Nat.le_refl _)) _).set_ ⟨w.heap.size, 3, none⟩ (.inr (Nat.le_refl _)) _).set_ ⟨w.heap.size, 4, none⟩ (.inr (Nat.le_refl _)) _).drew)
  generalize ((((((w5.setCell ⟨w.heap.size, 0, none⟩ (.int .i64 0)).setCell ⟨w.heap.size, 1, none⟩ (.int .i64 0)).setCell ⟨w.heap.size, 2, none⟩ (.int .i64 0)).setCell ⟨w.heap.size, 3, none⟩ (.int .u64 0)).setCell ⟨w.heap.size, 4, none⟩ (.int .u64 0)).drew) = W6 at XX QQ OO ⊢
  have hx6 := XX.out.cell
  clear hxq hxqf hxx hxxf
  go_wp2
  refine bodyPost_ret (v := .tuple #[.agg #[.int .i64 0, .int .i64 0, .int .i64 0, .int .u64 0, .int .u64 0], .bool false]) (by simp [results, Try.results153, go_sem, hx6]) rfl ⟨rfl, QQ.out, OO.out⟩

theorem result_c (w : World) (P : Nat) (cd ou : Int) (hq : Over w P cd ou) :
    Calls Try.prog 154 #[.pointer (some ⟨P, 0, none⟩)] w fun e w' => e = .returned (.tuple #[.int .i64 cd, .int .u32 ou]) ∧ ∃ n, w' = w.drewN n := by
  have hcq := Blk.cell hq
  clear hq
  go_enter Try.func154, Try.ntmps154
  go_wp2
  go_quiet (fail)
  go_wp2
  go_ret2
  exact ⟨rfl, _, rfl⟩

theorem proc_c (w : World) (ga : Nat) :
    Calls Try.prog 66 #[.func (.func 86) #[] #[.pointer (some ⟨ga, 0, none⟩)]] w fun e w' => e = .returned (.iface 145 (.pointer (some ⟨w.heap.size, 0, none⟩))) ∧ w' = w.alloc (.cells #[.func (.func 86) #[] #[.pointer (some ⟨ga, 0, none⟩)], .slice none 0 0, .bool false, .bool false, .int .i64 0, .int .u32 0] 148) := by
  go_enter Try.func66, Try.ntmps66
  go_wp2
  go_ret
  exact ⟨rfl, rfl⟩

theorem single_c (w : World) (a : Acc) :
    Calls Try.prog 53 #[.agg #[.int .i64 a.d, .int .i64 a.ar, .int .i64 a.at_, .int .u64 a.old, .int .u64 a.new]] w fun e w' => e = .returned (.iface 145 (.pointer (some ⟨(w.heap.size + 1), 0, none⟩))) ∧ Fresh w' (w.heap.size + 1) w.heap.size a ∧ Below w.heap.size w w' := by
  have hmf : ∀ (fn : Fn) (first cap : Array Value) (w : World), (Instr.makeFunc fn first cap).run Try.prog w = .ok (.func fn first cap) w := fun _ _ _ _ => rfl
  go_enter Try.func53, Try.ntmps53
  go_wp2_with (go_at_call 66; (with_reducible refine (proc_c _ w.heap.size).mono ?_); rintro e w1 ⟨rfl, rfl⟩)
  go_ret
  exact ⟨rfl, ⟨blk_at (by simp), (Blk.new _ _ _).alloc _⟩, ((Below.refl _ _).alloc (Nat.le_refl _) _).alloc (by simp) _⟩
end Go.Proofs.Ytjgbgjkjnlaloaa.Procc
