/- A part of the proof. -/
import Derived.BigRegion
import Derived.StillTail
import Derived.OrdersHeld
import Derived.Deep.RegionHeld3
import Derived.StillTailTactics
import Derived.Test.YtffppdcpiieapaaGreatRows
import Derived.WalkKit
import Derived.IntWalk
import Derived.WalkSpells
import Derived.Outline
import Derived.Test.YtffppdcpiieapaaGreatP1
import Derived.Test.YtffppdcpiieapaaGreatP2
import Derived.Test.YtffppdcpiieapaaGreatP3
namespace Go.Proofs.YtffppdcpiieapaaGreat.Procc
open Go.RowKit Memc
set_option linter.unusedVariables false
set_option maxRecDepth 100000

inductive Nx
 | ask (a : Acc)
 | fin (cd ou : Int)
def Pl : Type := List (Int × Bool) -> Nx
def Going (p : Pl) (fs : List (Int × Bool)) : Prop := (∀ k, k < fs.length -> ∃ a, p (fs.take k) = .ask a) /\ ∀ x ∈ fs, 0 <= x.1 /\ x.1 <= 18446744073709551615
def fcells (f : Int × Bool) : List Value := [.int .u64 f.1, .bool f.2]
def flatF (fs : List (Int × Bool)) : List Value := (fs.map fcells).flatten
structure Cap1 where
 g : Nat
 t : TypeId
 v : Array Value
def Cap1.ptr (x : Cap1) : Value := .pointer (some ⟨x.g, 0, none⟩)
def Kept (w : World) (l : List Cap1) : Prop := ∀ x ∈ l, Blk w x.g x.t x.v
def AskD (w : World) (gn gm gx : Nat) (a : Acc) (e : Ending) (w' : World) : Prop :=
 e = .panicked [{ v := .iface 179 (.agg #[]), recovered := false }] /\ Blk w' gm 4 #[.bool true] /\ Blk w' gx 66 #[.int .i64 a.d, .int .i64 a.ar, .int .i64 a.at_, .int .u64 a.old, .int .u64 a.new] /\ Only (fun k => k = gn \/ k = gm \/ k = gx) w w'
def FinD (w : World) (gn : Nat) (cd ou : Int) (e : Ending) (w' : World) : Prop := e = .returned (.tuple #[.int .i64 cd, .int .u32 ou]) /\ Only (fun g => g = gn) w w'
def Enters (F : Nat) : Prop := ∀ (args : Array Value) (w : World), (callFunc F args).run Tryz.prog w = .ok (.enter F args) w
theorem upon_func {F : Nat} (hE : Enters F) {o : Oper} {a : Act} {next : Act -> World -> Prop} {Q : Exit -> Act -> World -> Prop} {args : Array Value} {w : World} {R : Ending -> World -> Prop} (h : Calls Tryz.prog F args w R)
   (hk : ∀ e w', R e w' -> (match (generalizing := false) e, w' with
     | .returned v, w'' => next (a.put o.dst v) w''
     | .panicked chain, w'' => Q (.panic chain) a w''
     | .outgrown, _ => LetsOut Q)) : Oper.upon Tryz.prog o a next Q ((callFunc F args).run Tryz.prog w) := by
 rw [hE args w]
 exact h.mono hk
def Meets (F : Nat) (l : List Cap1) (p : Pl) : Prop :=
 Enters F /\ ∀ (w : World) (base gn gp gm gx P : Nat) (s : Sl) (fs : List (Int × Bool)) (ask ov : Bool) (cd ou : Int),
   Blk w gn 3 #[.int .i64 0] -> Blk w gp 82 #[.pointer (some ⟨P, 0, none⟩)] -> Blk w gm 4 #[.bool false] -> Blk w gx 66 #[.int .i64 0, .int .i64 0, .int .i64 0, .int .u64 0, .int .u64 0] -> Blk w P 85 #[.func (.func F) #[] (l.map Cap1.ptr).toArray, .slice s.A s.n s.c, .bool ask, .bool ov, .int .i64 cd, .int .u32 ou] ->
   Row w base 176 2 s fs.length (flatF fs) -> fs.length <= 100000 -> Going p fs -> Kept w l -> (∀ x ∈ l, x.g < gn /\ x.g < gm /\ x.g < gx) ->
   (∀ a, p fs = .ask a -> Calls Tryz.prog F (#[.func (.func 122) #[] #[.pointer (some ⟨gn, 0, none⟩), .pointer (some ⟨gp, 0, none⟩), .pointer (some ⟨gm, 0, none⟩), .pointer (some ⟨gx, 0, none⟩)]] ++ (l.map Cap1.ptr).toArray) w (AskD w gn gm gx a)) /\
   (∀ cd' ou', p fs = .fin cd' ou' -> Calls Tryz.prog F (#[.func (.func 122) #[] #[.pointer (some ⟨gn, 0, none⟩), .pointer (some ⟨gp, 0, none⟩), .pointer (some ⟨gm, 0, none⟩), .pointer (some ⟨gx, 0, none⟩)]] ++ (l.map Cap1.ptr).toArray) w (FinD w gn cd' ou'))

set_option maxHeartbeats 2000000 in
theorem throughg_ask (w : World) (base P F : Nat) (cs : Array Value) (l : List Cap1) (p : Pl) (s : Sl) (fs : List (Int × Bool)) (a : Acc) (ask ov : Bool) (cd ou : Int) (hcs : cs = (l.map Cap1.ptr).toArray) (hme : Meets F l p) (hq : Blk w P 85 #[.func (.func F) #[] cs, .slice s.A s.n s.c, .bool ask, .bool ov, .int .i64 cd, .int .u32 ou]) (hr : Row w base 176 2 s fs.length (flatF fs)) (hk : Kept w l) (hn : fs.length <= 100000) (hg : Going p fs) (hpf : p fs = .ask a) :
   Calls Tryz.prog 119 #[.pointer (some ⟨P, 0, none⟩)] w (Thru w P (.func (.func F) #[] cs) s.A s.n s.c ask ov cd ou cd ou #[.int .i64 a.d, .int .i64 a.ar, .int .i64 a.at_, .int .u64 a.old, .int .u64 a.new] true) := by
 have hmf : ∀ (fn : Fn) (first cap : Array Value) (w : World), (Instr.makeFunc fn first cap).run Tryz.prog w = .ok (.func fn first cap) w := fun _ _ _ _ => rfl
 have hcq := hq.cell
 have hfq := hq.frozen
 have hzq := hq.lt
 have HQ := lh hq
 have HR := lh hr
 have HL := lh hk
 have HG := lh hg
 have HME := lh hme
 have HCS := lh hcs
 have HPF := lh hpf
 clear hq hr hk hg hme hcs hpf
 have hq1 : P < w.heap.size + 1 := by omega
 have hq2 : P < w.heap.size + 1 + 1 := by omega
 have hq3 : P < w.heap.size + 1 + 1 + 1 := by omega
 go_enter_defers Tryz.func119, Tryz.ntmps119
 go_wp2_with fail
 have BP : Hid (Blk ((((w.alloc (.cells #[.pointer (some ⟨P, 0, none⟩)] 82)).alloc (.cells #[.int .i64 0, .int .i64 0, .int .i64 0, .int .u64 0, .int .u64 0] 66)).alloc (.cells #[.bool false] 4)).alloc (.cells #[.int .i64 0] 3)) w.heap.size 82 #[.pointer (some ⟨P, 0, none⟩)]) := lh ((((Blk.new _ _ _).alloc _).alloc _).alloc _)
 have BX : Hid (Blk ((((w.alloc (.cells #[.pointer (some ⟨P, 0, none⟩)] 82)).alloc (.cells #[.int .i64 0, .int .i64 0, .int .i64 0, .int .u64 0, .int .u64 0] 66)).alloc (.cells #[.bool false] 4)).alloc (.cells #[.int .i64 0] 3)) (w.heap.size + 1) 66 #[.int .i64 0, .int .i64 0, .int .i64 0, .int .u64 0, .int .u64 0]) := lh (((blk_at (by simp)).alloc _).alloc _)
 have BM : Hid (Blk ((((w.alloc (.cells #[.pointer (some ⟨P, 0, none⟩)] 82)).alloc (.cells #[.int .i64 0, .int .i64 0, .int .i64 0, .int .u64 0, .int .u64 0] 66)).alloc (.cells #[.bool false] 4)).alloc (.cells #[.int .i64 0] 3)) (w.heap.size + 1 + 1) 4 #[.bool false]) := lh ((blk_at (by simp)).alloc _)
 have BN : Hid (Blk ((((w.alloc (.cells #[.pointer (some ⟨P, 0, none⟩)] 82)).alloc (.cells #[.int .i64 0, .int .i64 0, .int .i64 0, .int .u64 0, .int .u64 0] 66)).alloc (.cells #[.bool false] 4)).alloc (.cells #[.int .i64 0] 3)) (w.heap.size + 1 + 1 + 1) 3 #[.int .i64 0]) := lh (blk_at (by simp))
 have BQ := lh ((((HQ.out.alloc (.cells #[.pointer (some ⟨P, 0, none⟩)] 82)).alloc (.cells #[.int .i64 0, .int .i64 0, .int .i64 0, .int .u64 0, .int .u64 0] 66)).alloc (.cells #[.bool false] 4)).alloc (.cells #[.int .i64 0] 3))
 have OV : Hid (Only (fun g => g = P) w ((((w.alloc (.cells #[.pointer (some ⟨P, 0, none⟩)] 82)).alloc (.cells #[.int .i64 0, .int .i64 0, .int .i64 0, .int .u64 0, .int .u64 0] 66)).alloc (.cells #[.bool false] 4)).alloc (.cells #[.int .i64 0] 3))) := lh (((((Only.refl _ _).alloc _).alloc _).alloc _).alloc _)
 have BR := lh ((((HR.out.alloc (.cells #[.pointer (some ⟨P, 0, none⟩)] 82)).alloc (.cells #[.int .i64 0, .int .i64 0, .int .i64 0, .int .u64 0, .int .u64 0] 66)).alloc (.cells #[.bool false] 4)).alloc (.cells #[.int .i64 0] 3))
 have BL : Hid (Kept ((((w.alloc (.cells #[.pointer (some ⟨P, 0, none⟩)] 82)).alloc (.cells #[.int .i64 0, .int .i64 0, .int .i64 0, .int .u64 0, .int .u64 0] 66)).alloc (.cells #[.bool false] 4)).alloc (.cells #[.int .i64 0] 3)) l) := lh (fun x hx => ((((HL.out x hx).alloc (.cells #[.pointer (some ⟨P, 0, none⟩)] 82)).alloc (.cells #[.int .i64 0, .int .i64 0, .int .i64 0, .int .u64 0, .int .u64 0] 66)).alloc (.cells #[.bool false] 4)).alloc (.cells #[.int .i64 0] 3))
 have LL : Hid (∀ x ∈ l, x.g < w.heap.size) := lh (fun x hx => (HL.out x hx).lt)
 generalize ((((w.alloc (.cells #[.pointer (some ⟨P, 0, none⟩)] 82)).alloc (.cells #[.int .i64 0, .int .i64 0, .int .i64 0, .int .u64 0, .int .u64 0] 66)).alloc (.cells #[.bool false] 4)).alloc (.cells #[.int .i64 0] 3)) = V at BP BX BM BN BQ BR BL OV ⊢
 have hm0 := HME.out.2 V base _ _ _ _ P s fs ask ov cd ou BN.out BP.out BM.out BX.out (by rw [HCS.out] at BQ; exact BQ.out) BR.out hn HG.out BL.out (fun x hx => by have := LL.out x hx; omega)
 rw [<- HCS.out] at hm0
 refine upon_func HME.out.1 (hm0.1 a HPF.out) ?_
 rintro e w1 ⟨rfl, hm1, hx1, ho1⟩
 have M1 := lh hm1
 have X1 := lh hx1
 have O1 := lh ho1
 clear hm1 hx1 ho1 hm0
 go_wp2
 refine leaves_cons (f := 121) (args := #[.pointer (some ⟨w.heap.size + 1 + 1, 0, none⟩), .pointer (some ⟨w.heap.size, 0, none⟩)]) (by simp) (by simp [go_sem]) ?_
 refine (catch_asked _ _ _ _ [] _ M1.out).mono ?_
 rintro e u' w'' ⟨rfl, rfl, rfl⟩
 have hcm := M1.out.cell
 have hcx := X1.out.cell
 have hth : Thru w P (.func (.func F) #[] cs) s.A s.n s.c ask ov cd ou cd ou #[.int .i64 a.d, .int .i64 a.ar, .int .i64 a.at_, .int .u64 a.old, .int .u64 a.new] true (.returned (.tuple #[.agg #[.int .i64 a.d, .int .i64 a.ar, .int .i64 a.at_, .int .u64 a.old, .int .u64 a.new], .bool true])) w'' :=
   ⟨rfl, BQ.out.only O1.out (by omega), OV.out.next O1.out (fun k hk hg => by omega)⟩
 have HTH := lh hth
 clear hth
 simp [Leaves, settle, results, Tryz.results119, go_sem, hcm, hcx]
 exact HTH.out

set_option maxHeartbeats 4000000 in
theorem throughg_fin (w : World) (base P F : Nat) (cs : Array Value) (l : List Cap1) (p : Pl) (s : Sl) (fs : List (Int × Bool)) (ask ov : Bool) (cd ou cd2 ou2 : Int) (hcs : cs = (l.map Cap1.ptr).toArray) (hme : Meets F l p) (hq : Blk w P 85 #[.func (.func F) #[] cs, .slice s.A s.n s.c, .bool ask, .bool ov, .int .i64 cd, .int .u32 ou]) (hr : Row w base 176 2 s fs.length (flatF fs)) (hk : Kept w l) (hn : fs.length <= 100000) (hg : Going p fs) (hpf : p fs = .fin cd2 ou2) :
   Calls Tryz.prog 119 #[.pointer (some ⟨P, 0, none⟩)] w (Thru w P (.func (.func F) #[] cs) s.A s.n s.c ask ov cd ou cd2 ou2 #[.int .i64 0, .int .i64 0, .int .i64 0, .int .u64 0, .int .u64 0] false) := by
 have hmf : ∀ (fn : Fn) (first cap : Array Value) (w : World), (Instr.makeFunc fn first cap).run Tryz.prog w = .ok (.func fn first cap) w := fun _ _ _ _ => rfl
 have hcq := hq.cell
 have hfq := hq.frozen
 have hzq := hq.lt
 have HQ := lh hq
 have HR := lh hr
 have HL := lh hk
 have HG := lh hg
 have HME := lh hme
 have HCS := lh hcs
 have HPF := lh hpf
 clear hq hr hk hg hme hcs hpf
 have hq1 : P < w.heap.size + 1 := by omega
 have hq2 : P < w.heap.size + 1 + 1 := by omega
 have hq3 : P < w.heap.size + 1 + 1 + 1 := by omega
 go_enter_defers Tryz.func119, Tryz.ntmps119
 go_wp2_with fail
 have BP : Hid (Blk ((((w.alloc (.cells #[.pointer (some ⟨P, 0, none⟩)] 82)).alloc (.cells #[.int .i64 0, .int .i64 0, .int .i64 0, .int .u64 0, .int .u64 0] 66)).alloc (.cells #[.bool false] 4)).alloc (.cells #[.int .i64 0] 3)) w.heap.size 82 #[.pointer (some ⟨P, 0, none⟩)]) := lh ((((Blk.new _ _ _).alloc _).alloc _).alloc _)
 have BX : Hid (Blk ((((w.alloc (.cells #[.pointer (some ⟨P, 0, none⟩)] 82)).alloc (.cells #[.int .i64 0, .int .i64 0, .int .i64 0, .int .u64 0, .int .u64 0] 66)).alloc (.cells #[.bool false] 4)).alloc (.cells #[.int .i64 0] 3)) (w.heap.size + 1) 66 #[.int .i64 0, .int .i64 0, .int .i64 0, .int .u64 0, .int .u64 0]) := lh (((blk_at (by simp)).alloc _).alloc _)
 have BM : Hid (Blk ((((w.alloc (.cells #[.pointer (some ⟨P, 0, none⟩)] 82)).alloc (.cells #[.int .i64 0, .int .i64 0, .int .i64 0, .int .u64 0, .int .u64 0] 66)).alloc (.cells #[.bool false] 4)).alloc (.cells #[.int .i64 0] 3)) (w.heap.size + 1 + 1) 4 #[.bool false]) := lh ((blk_at (by simp)).alloc _)
 have BN : Hid (Blk ((((w.alloc (.cells #[.pointer (some ⟨P, 0, none⟩)] 82)).alloc (.cells #[.int .i64 0, .int .i64 0, .int .i64 0, .int .u64 0, .int .u64 0] 66)).alloc (.cells #[.bool false] 4)).alloc (.cells #[.int .i64 0] 3)) (w.heap.size + 1 + 1 + 1) 3 #[.int .i64 0]) := lh (blk_at (by simp))
 have BQ := lh ((((HQ.out.alloc (.cells #[.pointer (some ⟨P, 0, none⟩)] 82)).alloc (.cells #[.int .i64 0, .int .i64 0, .int .i64 0, .int .u64 0, .int .u64 0] 66)).alloc (.cells #[.bool false] 4)).alloc (.cells #[.int .i64 0] 3))
 have OV : Hid (Only (fun g => g = P) w ((((w.alloc (.cells #[.pointer (some ⟨P, 0, none⟩)] 82)).alloc (.cells #[.int .i64 0, .int .i64 0, .int .i64 0, .int .u64 0, .int .u64 0] 66)).alloc (.cells #[.bool false] 4)).alloc (.cells #[.int .i64 0] 3))) := lh (((((Only.refl _ _).alloc _).alloc _).alloc _).alloc _)
 have BR := lh ((((HR.out.alloc (.cells #[.pointer (some ⟨P, 0, none⟩)] 82)).alloc (.cells #[.int .i64 0, .int .i64 0, .int .i64 0, .int .u64 0, .int .u64 0] 66)).alloc (.cells #[.bool false] 4)).alloc (.cells #[.int .i64 0] 3))
 have BL : Hid (Kept ((((w.alloc (.cells #[.pointer (some ⟨P, 0, none⟩)] 82)).alloc (.cells #[.int .i64 0, .int .i64 0, .int .i64 0, .int .u64 0, .int .u64 0] 66)).alloc (.cells #[.bool false] 4)).alloc (.cells #[.int .i64 0] 3)) l) := lh (fun x hx => ((((HL.out x hx).alloc (.cells #[.pointer (some ⟨P, 0, none⟩)] 82)).alloc (.cells #[.int .i64 0, .int .i64 0, .int .i64 0, .int .u64 0, .int .u64 0] 66)).alloc (.cells #[.bool false] 4)).alloc (.cells #[.int .i64 0] 3))
 have LL : Hid (∀ x ∈ l, x.g < w.heap.size) := lh (fun x hx => (HL.out x hx).lt)
 generalize ((((w.alloc (.cells #[.pointer (some ⟨P, 0, none⟩)] 82)).alloc (.cells #[.int .i64 0, .int .i64 0, .int .i64 0, .int .u64 0, .int .u64 0] 66)).alloc (.cells #[.bool false] 4)).alloc (.cells #[.int .i64 0] 3)) = V at BP BX BM BN BQ BR BL OV ⊢
 have hm0 := HME.out.2 V base _ _ _ _ P s fs ask ov cd ou BN.out BP.out BM.out BX.out (by rw [HCS.out] at BQ; exact BQ.out) BR.out hn HG.out BL.out (fun x hx => by have := LL.out x hx; omega)
 rw [<- HCS.out] at hm0
 refine upon_func HME.out.1 (hm0.2 cd2 ou2 HPF.out) ?_
 rintro e w1 ⟨rfl, ho1⟩
 clear hm0
 have O1 := lh ho1
 have Q1 := lh (BQ.out.only ho1 (by omega))
 have X1 := lh (BX.out.only ho1 (by omega))
 have M1 := lh (BM.out.only ho1 (by omega))
 have P1 := lh (BP.out.only ho1 (by omega))
 have hxq := Q1.out.cell
 have hxqf := Q1.out.frozen
 have hxx := X1.out.cell
 have hxxf := X1.out.frozen
 have hxm := M1.out.cell
 have hxmf := M1.out.frozen
 have hxp := P1.out.cell
 have n1 : ¬ P = w.heap.size := by omega
 have n2 : ¬ P = w.heap.size + 1 := by omega
 have n3 : ¬ P = w.heap.size + 1 + 1 := by omega
 clear ho1 hcq hfq
 go_wp2
 go_region
 all_goals
   go_wp2
   go_region
   all_goals
     go_wp2
     have MM : Hid (Blk ((((((((((w1.setCell ⟨P, 4, none⟩ (.int .i64 cd2)).setCell ⟨P, 5, none⟩ (.int .u32 ou2)).setCell ⟨(w.heap.size + 1), 0, none⟩ (.int .i64 0)).setCell ⟨(w.heap.size + 1), 1, none⟩ (.int .i64 0)).setCell ⟨(w.heap.size + 1), 2, none⟩ (.int .i64 0)).setCell ⟨(w.heap.size + 1), 3, none⟩ (.int .u64 0)).setCell ⟨(w.heap.size + 1), 4, none⟩ (.int .u64 0)).setCell ⟨(w.heap.size + 1 + 1), 0, none⟩ (.bool false)).drew).drew) (w.heap.size + 1 + 1) 4 #[.bool false]) := lh (by have h_ := ((((((((((M1.out).far (p := ⟨P, 4, none⟩) (show ¬ (w.heap.size + 1 + 1) = P by omega) (.int .i64 cd2)).far (p := ⟨P, 5, none⟩) (show ¬ (w.heap.size + 1 + 1) = P by omega) (.int .u32 ou2)).far (p := ⟨(w.heap.size + 1), 0, none⟩) (show ¬ (w.heap.size + 1 + 1) = (w.heap.size + 1) by omega) (.int .i64 0)).far (p := ⟨(w.heap.size + 1), 1, none⟩) (show ¬ (w.heap.size + 1 + 1) = (w.heap.size + 1) by omega) (.int .i64 0)).far (p := ⟨(w.heap.size + 1), 2, none⟩) (show ¬ (w.heap.size + 1 + 1) = (w.heap.size + 1) by omega) (.int .i64 0)).far (p := ⟨(w.heap.size + 1), 3, none⟩) (show ¬ (w.heap.size + 1 + 1) = (w.heap.size + 1) by omega) (.int .u64 0)).far (p := ⟨(w.heap.size + 1), 4, none⟩) (show ¬ (w.heap.size + 1 + 1) = (w.heap.size + 1) by omega) (.int .u64 0)).set_ 0 (.bool false)).drew).drew; simpa only [sA, sZ, sC] using h_)
     have XX : Hid (Blk ((((((((((w1.setCell ⟨P, 4, none⟩ (.int .i64 cd2)).setCell ⟨P, 5, none⟩ (.int .u32 ou2)).setCell ⟨(w.heap.size + 1), 0, none⟩ (.int .i64 0)).setCell ⟨(w.heap.size + 1), 1, none⟩ (.int .i64 0)).setCell ⟨(w.heap.size + 1), 2, none⟩ (.int .i64 0)).setCell ⟨(w.heap.size + 1), 3, none⟩ (.int .u64 0)).setCell ⟨(w.heap.size + 1), 4, none⟩ (.int .u64 0)).setCell ⟨(w.heap.size + 1 + 1), 0, none⟩ (.bool false)).drew).drew) (w.heap.size + 1) 66 #[.int .i64 0, .int .i64 0, .int .i64 0, .int .u64 0, .int .u64 0]) := lh (by have h_ := ((((((((((X1.out).far (p := ⟨P, 4, none⟩) (show ¬ (w.heap.size + 1) = P by omega) (.int .i64 cd2)).far (p := ⟨P, 5, none⟩) (show ¬ (w.heap.size + 1) = P by omega) (.int .u32 ou2)).set_ 0 (.int .i64 0)).set_ 1 (.int .i64 0)).set_ 2 (.int .i64 0)).set_ 3 (.int .u64 0)).set_ 4 (.int .u64 0)).far (p := ⟨(w.heap.size + 1 + 1), 0, none⟩) (show ¬ (w.heap.size + 1) = (w.heap.size + 1 + 1) by omega) (.bool false)).drew).drew; simpa only [sA, sZ, sC] using h_)
     have QQ : Hid (Blk ((((((((((w1.setCell ⟨P, 4, none⟩ (.int .i64 cd2)).setCell ⟨P, 5, none⟩ (.int .u32 ou2)).setCell ⟨(w.heap.size + 1), 0, none⟩ (.int .i64 0)).setCell ⟨(w.heap.size + 1), 1, none⟩ (.int .i64 0)).setCell ⟨(w.heap.size + 1), 2, none⟩ (.int .i64 0)).setCell ⟨(w.heap.size + 1), 3, none⟩ (.int .u64 0)).setCell ⟨(w.heap.size + 1), 4, none⟩ (.int .u64 0)).setCell ⟨(w.heap.size + 1 + 1), 0, none⟩ (.bool false)).drew).drew) P 85 #[.func (.func F) #[] cs, .slice s.A s.n s.c, .bool ask, .bool ov, .int .i64 cd2, .int .u32 ou2]) := lh (by have h_ := ((((((((((Q1.out).set_ 4 (.int .i64 cd2)).set_ 5 (.int .u32 ou2)).far (p := ⟨(w.heap.size + 1), 0, none⟩) (show ¬ P = (w.heap.size + 1) by omega) (.int .i64 0)).far (p := ⟨(w.heap.size + 1), 1, none⟩) (show ¬ P = (w.heap.size + 1) by omega) (.int .i64 0)).far (p := ⟨(w.heap.size + 1), 2, none⟩) (show ¬ P = (w.heap.size + 1) by omega) (.int .i64 0)).far (p := ⟨(w.heap.size + 1), 3, none⟩) (show ¬ P = (w.heap.size + 1) by omega) (.int .u64 0)).far (p := ⟨(w.heap.size + 1), 4, none⟩) (show ¬ P = (w.heap.size + 1) by omega) (.int .u64 0)).far (p := ⟨(w.heap.size + 1 + 1), 0, none⟩) (show ¬ P = (w.heap.size + 1 + 1) by omega) (.bool false)).drew).drew; simpa only [sA, sZ, sC] using h_)
     have OO : Hid (Only (fun g => g = P) w ((((((((((w1.setCell ⟨P, 4, none⟩ (.int .i64 cd2)).setCell ⟨P, 5, none⟩ (.int .u32 ou2)).setCell ⟨(w.heap.size + 1), 0, none⟩ (.int .i64 0)).setCell ⟨(w.heap.size + 1), 1, none⟩ (.int .i64 0)).setCell ⟨(w.heap.size + 1), 2, none⟩ (.int .i64 0)).setCell ⟨(w.heap.size + 1), 3, none⟩ (.int .u64 0)).setCell ⟨(w.heap.size + 1), 4, none⟩ (.int .u64 0)).setCell ⟨(w.heap.size + 1 + 1), 0, none⟩ (.bool false)).drew).drew)) := lh ((((((((((((OV.out.next O1.out (fun k hk hg => by omega))).set_ ⟨P, 4, none⟩ (.inl rfl) _).set_ ⟨P, 5, none⟩ (.inl rfl) _).set_ ⟨(w.heap.size + 1), 0, none⟩ (.inr (by simp)) _).set_ ⟨(w.heap.size + 1), 1, none⟩ (.inr (by simp)) _).set_ ⟨(w.heap.size + 1), 2, none⟩ (.inr (by simp)) _).set_ ⟨(w.heap.size + 1), 3, none⟩ (.inr (by simp)) _).set_ ⟨(w.heap.size + 1), 4, none⟩ (.inr (by simp)) _).set_ ⟨(w.heap.size + 1 + 1), 0, none⟩ (.inr (by simp; omega)) _).drew).drew)
     generalize ((((((((((w1.setCell ⟨P, 4, none⟩ (.int .i64 cd2)).setCell ⟨P, 5, none⟩ (.int .u32 ou2)).setCell ⟨(w.heap.size + 1), 0, none⟩ (.int .i64 0)).setCell ⟨(w.heap.size + 1), 1, none⟩ (.int .i64 0)).setCell ⟨(w.heap.size + 1), 2, none⟩ (.int .i64 0)).setCell ⟨(w.heap.size + 1), 3, none⟩ (.int .u64 0)).setCell ⟨(w.heap.size + 1), 4, none⟩ (.int .u64 0)).setCell ⟨(w.heap.size + 1 + 1), 0, none⟩ (.bool false)).drew).drew) = W5 at MM XX QQ OO ⊢
     refine leaves_cons (f := 121) (args := #[.pointer (some ⟨(w.heap.size + 1 + 1), 0, none⟩), .pointer (some ⟨w.heap.size, 0, none⟩)]) (by simp) (by simp [go_sem]) ?_
     refine (catch_idle _ _ _).mono ?_
     rintro e u' w'' ⟨rfl, rfl, rfl⟩
     have hcm := MM.out.cell
     have hcx := XX.out.cell
     have hth : Thru w P (.func (.func F) #[] cs) s.A s.n s.c ask ov cd ou cd2 ou2 #[.int .i64 0, .int .i64 0, .int .i64 0, .int .u64 0, .int .u64 0] false (.returned (.tuple #[.agg #[.int .i64 0, .int .i64 0, .int .i64 0, .int .u64 0, .int .u64 0], .bool false])) w'' := ⟨rfl, QQ.out, OO.out⟩
     have HTH := lh hth
     clear hth
     simp [Leaves, settle, results, Tryz.results119, go_sem, hcm, hcx]
     exact HTH.out
end Go.Proofs.YtffppdcpiieapaaGreat.Procc

namespace Go.Proofs.YtffppdcpiieapaaGreat.Wordc
open Go.RowKit
set_option linter.unusedVariables false
set_option maxRecDepth 100000
theorem half64_c (x : Int) (w : World) (x0 : 0 <= x) (x1 : x <= 18446744073709551615) :
   Calls Tryz.prog 55 #[.int .u64 x] w fun e w' => e = .returned (.int .u32 (x % 4294967296)) /\ w = w' := by
 go_enter Tryz.func55, Tryz.ntmps55
 go_wp2
 go_ret
 exact ⟨rfl, rfl⟩
theorem high_c (x : Int) (w : World) (x0 : 0 <= x) (x1 : x <= 18446744073709551615) :
   Calls Tryz.prog 37 #[.int .u64 x] w fun e w' => e = .returned (.int .u32 (x / 4294967296)) /\ w = w' := by
 go_enter Tryz.func37, Tryz.ntmps37
 go_wp2_with (go_at_call 55; refine (half64_c _ _ (by omega) (by omega)).mono ?_; rintro e w' ⟨rfl, rfl⟩)
 go_ret
 exact ⟨ret_int (by show _ % 4294967296 = _; omega), rfl⟩
theorem low_c (x : Int) (w : World) (x0 : 0 <= x) (x1 : x <= 18446744073709551615) :
   Calls Tryz.prog 36 #[.int .u64 x] w fun e w' => e = .returned (.int .u32 (x % 4294967296)) /\ w = w' := by
 go_enter Tryz.func36, Tryz.ntmps36
 go_wp2_with (go_at_call 55; refine (half64_c _ _ (by omega) (by omega)).mono ?_; rintro e w' ⟨rfl, rfl⟩)
 go_ret
 exact ⟨rfl, rfl⟩
theorem handle_c (x : Int) (w : World) (x0 : 0 <= x) (x1 : x <= 18446744073709551615) :
   Calls Tryz.prog 39 #[.int .u64 x] w fun e w' => e = .returned (.int .i64 (x % 4294967296 - 1)) /\ w = w' := by
 go_enter Tryz.func39, Tryz.ntmps39
 go_wp2_with (go_at_call 36; refine (low_c _ _ (by omega) (by omega)).mono ?_; rintro e w' ⟨rfl, rfl⟩)
 go_ret
 exact ⟨rfl, rfl⟩
end Go.Proofs.YtffppdcpiieapaaGreat.Wordc
namespace Go.Proofs.YtffppdcpiieapaaGreat.Procc
open Go.RowKit Memc
set_option linter.unusedVariables false
set_option maxRecDepth 100000
structure Env (W : World) (base gn gp gm gx P k : Nat) (run : Value) (s : Sl) (fs : List (Int × Bool)) (ask ov : Bool) (cd ou : Int) : Prop where
 hn : Blk W gn 3 #[.int .i64 k]
 hp : Blk W gp 82 #[.pointer (some ⟨P, 0, none⟩)]
 hm : Blk W gm 4 #[.bool false]
 hx : Blk W gx 66 #[.int .i64 0, .int .i64 0, .int .i64 0, .int .u64 0, .int .u64 0]
 hq : Blk W P 85 #[run, .slice s.A s.n s.c, .bool ask, .bool ov, .int .i64 cd, .int .u32 ou]
 hf : Row W base 176 2 s fs.length (flatF fs)
 hl : fs.length <= 100000
 hk : k <= fs.length
section
variable {W : World} {base gn gp gm gx P k : Nat} {run : Value} {s : Sl} {fs : List (Int × Bool)} {ask ov : Bool} {cd ou : Int}
theorem flatF_get : ∀ (fs : List (Int × Bool)) (i : Nat) (x : Int × Bool) (j : Nat) (v : Value), fs[i]? = some x -> (fcells x)[j]? = some v -> (flatF fs)[i * 2 + j]? = some v
 | [], i, x, j, v, h, _ => by simp at h
 | y :: l, 0, x, j, v, h, hv => by
   injection h with h
   subst h
   have hj : j < (fcells y).length := (List.getElem?_eq_some_iff.1 hv).1
   show (fcells y ++ flatF l)[0 * 2 + j]? = some v
   rw [Nat.zero_mul, Nat.zero_add, List.getElem?_append_left hj]
   exact hv
 | y :: l, i + 1, x, j, v, h, hv => by
   have := flatF_get l i x j v h hv
   show (fcells y ++ flatF l)[(i + 1) * 2 + j]? = some v
   have h7 : (fcells y).length = 2 := rfl
   rw [List.getElem?_append_right (by omega), h7, show (i + 1) * 2 + j - 2 = i * 2 + j by omega]
   exact this
theorem Env.asks (h : Env W base gn gp gm gx P k run s fs ask ov cd ou) (hk : k = fs.length) (a : Acc) :
   Calls Tryz.prog 122 #[.agg #[.int .i64 a.d, .int .i64 a.ar, .int .i64 a.at_, .int .u64 a.old, .int .u64 a.new], .pointer (some ⟨gn, 0, none⟩), .pointer (some ⟨gp, 0, none⟩), .pointer (some ⟨gm, 0, none⟩), .pointer (some ⟨gx, 0, none⟩)] W (Asked W gm gx a) := by
 have hs := h.hf.n_.1
 have hn := h.hn
 rw [hk, <- hs] at hn
 exact do_ask W gn gp gm gx P run s.A s.n s.c a ask ov cd ou hn h.hp h.hm h.hx h.hq
theorem Env.tells (h : Env W base gn gp gm gx P k run s fs ask ov cd ou) {x : Int × Bool} (hx : fs[k]? = some x) (a : Acc) :
   Calls Tryz.prog 122 #[.agg #[.int .i64 a.d, .int .i64 a.ar, .int .i64 a.at_, .int .u64 a.old, .int .u64 a.new], .pointer (some ⟨gn, 0, none⟩), .pointer (some ⟨gp, 0, none⟩), .pointer (some ⟨gm, 0, none⟩), .pointer (some ⟨gx, 0, none⟩)] W fun e w' => e = .returned (.tuple #[.int .u64 x.1, .bool x.2]) /\ Env w' base gn gp gm gx P (k + 1) run s fs ask ov cd ou /\ Only (fun g => g = gn) W w' := by
 have hlt := (List.getElem?_eq_some_iff.1 hx).1
 have hs := h.hf.n_
 obtain ⟨g, hA, _, hg, hc, _⟩ := h.hf.at_ (by omega)
 have hq := h.hq
 have hne := h.hf.ne h.hn (by decide) g ⟨_, hA, rfl⟩
 rw [hA] at hq
 have h1 : W.cell? ⟨g, 0 + k * 2, none⟩ = some (.int .u64 x.1) := by
   rw [Nat.zero_add]
   exact (hc (k * 2) (by omega)).trans (flatF_get fs k x 0 _ hx rfl)
 have h2 : W.cell? ⟨g, 0 + k * 2 + 1, none⟩ = some (.bool x.2) := by
   rw [Nat.zero_add]
   exact (hc (k * 2 + 1) (by omega)).trans (flatF_get fs k x 1 _ hx rfl)
 refine (do_tell W gn gp gm gx P run g 0 s.n s.c k a ask ov false cd ou x.1 x.2 h.hn h.hp hq (by omega) (Nat.le_trans hs.2.1 hs.2.2.1) h1 h2 hne).mono ?_
 rintro e w' ⟨he, hn', ho⟩
 refine ⟨he, ⟨by have e1 : ((k + 1 : Nat) : Int) = (k : Int) + 1 := by omega
                 rw [e1]; exact hn', h.hp.only ho (Blk.ne h.hp h.hn (by decide)), h.hm.only ho (Blk.ne h.hm h.hn (by decide)), h.hx.only ho (Blk.ne h.hx h.hn (by decide)), h.hq.only ho (Blk.ne h.hq h.hn (by decide)), h.hf.only ho (h.hf.ne h.hn (by decide)), h.hl, hlt⟩, ho⟩
end
end Go.Proofs.YtffppdcpiieapaaGreat.Procc

namespace Go.Proofs.YtffppdcpiieapaaGreat.Drivec
open Go.RowKit Memc Procc
set_option linter.unusedVariables false
set_option maxRecDepth 100000

def tailA (b off c : Nat) : Option Addr := if c = 1 then some ⟨b, off, none⟩ else some ⟨b, off + 5, none⟩
end Go.Proofs.YtffppdcpiieapaaGreat.Drivec

namespace Go.Proofs.YtffppdcpiieapaaGreat.Zreg
open Go Go.RowKit
set_option linter.unusedVariables false
set_option maxRecDepth 100000
section
variable {P : Program} {ops : Array Oper} {Q : Exit -> Act -> World -> Prop} {md : Region.Mode} {S : World -> Prop} {zs : List Nat}

def past (zs : List Nat) (listed : Array Bool) : Bool := zs.any fun z => listed.getD z false
theorem past_set {j : Nat} {listed : Array Bool} (h : past zs listed = false) (hj : j ∉ zs) : past zs (listed.setIfInBounds j true) = false := by
 unfold past at *
 rw [List.any_eq_false] at *
 intro z hz
 have hne : j ≠ z := fun e => hj (e ▸ hz)
 rw [getD_set_ne false hne]
 exact h z hz
theorem past_of_set {i : Nat} {listed : Array Bool} (hi : i ∉ zs) (h : past zs (listed.setIfInBounds i true) = true) : past zs listed = true := by
 cases hp : past zs listed
 · rw [past_set hp hi] at h; cases h
 · rfl
theorem past_mono {i : Nat} {listed : Array Bool} (h : past zs listed = true) : past zs (listed.setIfInBounds i true) = true := by
 unfold past at *
 rw [List.any_eq_true] at *
 obtain ⟨z, hz, hl⟩ := h
 exact ⟨z, hz, getD_set_true hl⟩

def After (P : Program) (md : Region.Mode) (ops : Array Oper) (Q : Exit -> Act -> World -> Prop) (S : World -> Prop) (zs : List Nat) : Nat -> Array Bool -> Act -> World -> Prop
 | 0 => fun listed a w => Region.ready md ops listed = [] /\ Q .normal a w
 | n + 1 => fun listed a w => (Region.ready md ops listed = [] -> Q .normal a w) /\
     ∀ j, j ∈ Region.ready md ops listed -> wpOp P ops Q j (fun b v => (past zs (listed.setIfInBounds j true) = true \/ S v) /\ After P md ops Q S zs n (listed.setIfInBounds j true) b v) a w

theorem After.any : ∀ (n : Nat) (listed : Array Bool) (a : Act) (w : World), After P md ops Q S zs n listed a w -> wpAny P md ops Q n listed a w
 | 0, _, _, _, h => h
 | n + 1, _, _, _, h => ⟨h.1, fun j hj => wpOp_mono (fun b v hh => After.any n _ b v hh.2) (h.2 j hj)⟩

theorem not_waits {i j : Nat} {listed : Array Bool} {oj : Oper} (hr : i ∈ Region.ready md ops listed) (hoj : ops[j]? = some oj) (hall : ∀ e ∈ oj.after, Region.binds md e = true -> listed.getD e.on false = true) :
   ∀ e ∈ oj.after, Region.binds md e = true -> e.on ≠ i := fun e he hb heq => by
 have h1 := hall e he hb
 have h0 := (mem_ready.1 hr).1
 rw [heq] at h1
 rw [Array.getD_eq_getD_getElem?] at h0 h1
 rcases hx : listed[i]? with _ | y
 · rw [hx] at h1; cases h1
 · rw [hx] at h0 h1
   simp only [Option.getD_some] at h0 h1
   rw [h0] at h1; cases h1

theorem After.first {S' : World -> Prop} {i : Nat} {o : Oper} {x : Value} (hi : ops[i]? = some o) (hiz : i ∉ zs) (hsel : Region.noSelect ops = true) (hQ : ∀ c a w, Q (.panic c) (a.put o.dst x) w -> Q (.panic c) a w) :
   ∀ (n : Nat) (listed : Array Bool) (a : Act) (w : World),
     ((∀ v, S' v) \/ (∀ v, S v -> S' v) /\ past zs listed = false /\ ∀ z ∈ zs, Region.waitsFor md ops z i = true) ->
     (∀ j oj, ops[j]? = some oj -> j ≠ i -> listed.getD j true = false -> (∀ e ∈ oj.after, Region.binds md e = true -> e.on ≠ i) -> o.apart ops oj = true) ->
     i ∈ Region.ready md ops listed -> YieldsIf P ops S' o x a -> S' w -> (past zs listed = true \/ S w) -> After P md ops Q S zs n (listed.setIfInBounds i true) (a.put o.dst x) w -> After P md ops Q S zs (n + 1) listed a w
 | n, listed, a, w, hz, hfree, hr, hy, hS', hS, h => by
   refine ⟨(fun h0 => (by rw [h0] at hr; cases hr)), fun j hj => ?_⟩
   by_cases hji : j = i
   · subst hji
     exact hy.wpOp hi hS' ⟨hS.imp_left past_mono, h⟩
   · obtain ⟨hun, oj, hoj, hall⟩ := mem_ready.1 hj
     have hno := not_waits hr hoj hall
     match n, h with
     | 0, h =>
       have := ready_mono hj hji
       rw [h.1] at this
       cases this
     | n + 1, h =>
       have h1 := h.2 j (ready_mono hj hji)
       have h2 := wpOp_putIf hoj (hfree j oj hoj hji hun hno) (fun cs b => Region.noSelect_spec hsel i o cs b hi) (fun cs b => Region.noSelect_spec hsel j oj cs b hoj) hQ hy h1
       refine wpOp_mono (fun b v h3 => ?_) h2
       have hSv : past zs (listed.setIfInBounds j true) = true \/ S v := by
         have h4 := h3.2.1
         rw [Array.setIfInBounds_comm _ _ (Ne.symm hji)] at h4
         exact h4.imp_left (past_of_set hiz)
       have hz' : (∀ v, S' v) \/ (∀ v, S v -> S' v) /\ past zs (listed.setIfInBounds j true) = false /\ ∀ z ∈ zs, Region.waitsFor md ops z i = true := by
         rcases hz with hz | ⟨hz1, hz2, hz3⟩
         · exact .inl hz
         · refine .inr ⟨hz1, past_set hz2 (fun hjz => ?_), hz3⟩
           obtain ⟨oj', hoj', e, he, hb, heq⟩ := Region.waitsFor_spec (hz3 j hjz)
           rw [hoj] at hoj'
           injection hoj' with hoj'
           subst hoj'
           exact hno e he hb heq
       have hS'v : S' v := by
         rcases hz' with hz | ⟨hz1, hz2, _⟩
         · exact hz v
         · exact hz1 v (hSv.resolve_left (by rw [hz2]; decide))
       refine ⟨hSv, After.first hi hiz hsel hQ n (listed.setIfInBounds j true) b v hz' (fun k ok hk hki hku hkn => ?_) (ready_mono hr (Ne.symm hji)) h3.1 hS'v hSv ?_⟩
       · refine hfree k ok hk hki ?_ hkn
         by_cases hjk : j = k
         · subst hjk; exact hun
         · rw [getD_set_ne true hjk] at hku; exact hku
       · rw [Array.setIfInBounds_comm _ _ hji]
         exact h3.2.2

theorem begin_ {id : Nat} {a : Act} {w : World} (hm : P.follows .mixedOrders = true) (h : After P .any ops Q S zs ops.size (Array.replicate ops.size false) a w.drew) : (Code.region id ops true).wp P Q a w :=
 wp_region_any hm (After.any _ _ _ _ h)
theorem takeS (i d : Nat) {o : Oper} {x : Value} {n : Nat} {listed : Array Bool} {tmps : Array Value} {w : World}
   (hi : ops[i]? = some o) (hd : o.dst = some d) (hs : Region.noSelect ops = true) (hf : Region.free md ops listed i = true) (hr : (Region.ready md ops listed).contains i = true) (hiz : zs.contains i = false) (hz : zs.all (fun z => Region.waitsFor md ops z i) = true) (hp : past zs listed = false)
   (hQ : ∀ c a w, Q (.panic c) (a.put o.dst x) w -> Q (.panic c) a w) (hS : past zs listed = true \/ S w) (hy : YieldsIf P ops S o x ⟨tmps, []⟩)
   (h : After P md ops Q S zs n (listed.setIfInBounds i true) ⟨tmps.setIfInBounds d x, []⟩ w) : After P md ops Q S zs (n + 1) listed ⟨tmps, []⟩ w := by
 refine After.first (S' := S) hi (by simpa using hiz) hs hQ n listed _ w (.inr ⟨fun _ h => h, hp, fun z hz' => List.all_eq_true.1 hz z hz'⟩) (fun j oj hj hne hun hno => Region.free_spec hi hf j oj hj hne hun hno) (by simpa using hr) hy (hS.resolve_left (by rw [hp]; decide)) hS ?_
 rw [hd]
 exact h
theorem takeP (i d : Nat) {o : Oper} {x : Value} {n : Nat} {listed : Array Bool} {tmps : Array Value} {w : World}
   (hi : ops[i]? = some o) (hd : o.dst = some d) (hs : Region.noSelect ops = true) (hf : Region.free md ops listed i = true) (hr : (Region.ready md ops listed).contains i = true) (hiz : zs.contains i = false)
   (hQ : ∀ c a w, Q (.panic c) (a.put o.dst x) w -> Q (.panic c) a w) (hS : past zs listed = true \/ S w) (hy : YieldsIf P ops (fun _ => True) o x ⟨tmps, []⟩)
   (h : After P md ops Q S zs n (listed.setIfInBounds i true) ⟨tmps.setIfInBounds d x, []⟩ w) : After P md ops Q S zs (n + 1) listed ⟨tmps, []⟩ w := by
 refine After.first (S' := fun _ => True) hi (by simpa using hiz) hs hQ n listed _ w (.inl fun _ => trivial) (fun j oj hj hne hun hno => Region.free_spec hi hf j oj hj hne hun hno) (by simpa using hr) hy trivial hS ?_
 rw [hd]
 exact h
theorem tP (i d : Nat) {o : Oper} {x : Value} {n : Nat} {listed : Array Bool} {tmps : Array Value} {w : World}
 (hi : ops[i]? = some o) (hd : o.dst = some d) (hk : (Region.noSelect ops && Region.free md ops listed i && (Region.ready md ops listed).contains i && !zs.contains i) = true) (hQ : ∀ c a w, Q (.panic c) (a.put o.dst x) w -> Q (.panic c) a w) (hS : past zs listed = true \/ S w) (hy : YieldsIf P ops (fun _ => True) o x ⟨tmps, []⟩) (h : After P md ops Q S zs n (listed.setIfInBounds i true) ⟨tmps.setIfInBounds d x, []⟩ w) : After P md ops Q S zs (n + 1) listed ⟨tmps, []⟩ w := by
 simp only [Bool.and_eq_true, Bool.not_eq_true'] at hk
 exact takeP i d hi hd hk.1.1.1 hk.1.1.2 hk.1.2 hk.2 hQ hS hy h
theorem tS (i d : Nat) {o : Oper} {x : Value} {n : Nat} {listed : Array Bool} {tmps : Array Value} {w : World}
 (hi : ops[i]? = some o) (hd : o.dst = some d) (hk : (Region.noSelect ops && Region.free md ops listed i && (Region.ready md ops listed).contains i && !zs.contains i && zs.all (fun z => Region.waitsFor md ops z i) && !past zs listed) = true) (hQ : ∀ c a w, Q (.panic c) (a.put o.dst x) w -> Q (.panic c) a w) (hS : past zs listed = true \/ S w) (hy : YieldsIf P ops S o x ⟨tmps, []⟩) (h : After P md ops Q S zs n (listed.setIfInBounds i true) ⟨tmps.setIfInBounds d x, []⟩ w) : After P md ops Q S zs (n + 1) listed ⟨tmps, []⟩ w := by
 simp only [Bool.and_eq_true, Bool.not_eq_true'] at hk
 exact takeS i d hi hd hk.1.1.1.1.1 hk.1.1.1.1.2 hk.1.1.1.2 hk.1.1.2 hk.1.2 hk.2 hQ hS hy h
theorem one (i : Nat) {o : Oper} {n : Nat} {listed : Array Bool} {a : Act} {w : World} (hr : Region.ready md ops listed = [i]) (hi : ops[i]? = some o) (hg : o.guard = none)
   (h : ∀ K : Act -> World -> Prop, Hid (∀ b v, (past zs (listed.setIfInBounds i true) = true \/ S v) -> ((past zs (listed.setIfInBounds i true) = true \/ S v) -> After P md ops Q S zs n (listed.setIfInBounds i true) b v) -> K b v) -> Oper.wp P o a w K Q) : After P md ops Q S zs (n + 1) listed a w := by
 refine ⟨(fun h0 => (by rw [hr] at h0; cases h0)), fun j hj => ?_⟩
 rw [hr] at hj
 obtain rfl : j = i := by simpa using hj
 unfold wpOp
 rw [hi]
 have hw : Region.wanted o (yielded ops a.tmps) = true := by simp [Region.wanted, hg]
 simp only [hw, if_true]
 exact .inl (h _ (lh fun b v hS hh => ⟨hS, hh hS⟩))
theorem done {listed : Array Bool} {a : Act} {w : World} (hr : Region.ready md ops listed = []) (h : Q .normal a w) : ∀ n, After P md ops Q S zs n listed a w
 | 0 => ⟨hr, h⟩
 | _ + 1 => ⟨fun _ => h, by rw [hr]; simp⟩
end
end Go.Proofs.YtffppdcpiieapaaGreat.Zreg

namespace Go.Proofs.YtffppdcpiieapaaGreat.Drivec
open Go.RowKit Memc Procc
set_option linter.unusedVariables false
set_option maxRecDepth 100000

theorem call_cell : (Tryz.prog.info? 50).map (fun i => (i.zero, i.size, i.bytes)) = some (some (.agg #[.int .i64 0, .int .i64 0, .int .u32 0, .int .i64 0, .int .i64 0, .int .i64 0, .int .u32 0]), 7, 56) := by kernel_rfl
theorem method_next (p : Addr) (w : World) : (method 281 82 (.pointer (some p)) "Next").run Tryz.prog w = .ok (116, .pointer (some p)) w := by kernel_rfl
theorem method_result (p : Addr) (w : World) : (method 281 82 (.pointer (some p)) "Result").run Tryz.prog w = .ok (117, .pointer (some p)) w := by kernel_rfl

def tailO (b off c : Nat) : Option Addr := if c = 1 then some ⟨b, off, none⟩ else some ⟨b, off + 2, none⟩

def begun (ct : Array Value) (o ob oo ln lcp sn P : Nat) (a : Acc) : Array Value :=
 ((((((((ct.setIfInBounds o (.slice (tailO ob oo lcp) (ln - 1) (lcp - 1))).setIfInBounds (o + 1) (.iface 82 (.pointer (some ⟨P, 0, none⟩)))).setIfInBounds (o + 2) (.int .i64 sn)).setIfInBounds (o + 3) (.int .i64 a.d)).setIfInBounds (o + 4) (.int .i64 a.ar)).setIfInBounds (o + 5) (.int .i64 a.at_)).setIfInBounds (o + 6) (.int .u64 a.old)).setIfInBounds (o + 7) (.int .u64 a.new)).setIfInBounds (o + 8) (.bool true)
end Go.Proofs.YtffppdcpiieapaaGreat.Drivec

namespace Go.Proofs.YtffppdcpiieapaaGreat.Storec
open Go.RowKit Memc
set_option linter.unusedVariables false
set_option maxRecDepth 100000

theorem only_c (p : Addr) (i : Int) (w : World) :
   Calls Tryz.prog 99 #[.pointer (some p), .int .i64 i] w fun e w' => e = .returned (.pointer (if i = 0 then some p else none)) /\ w = w' := by
 by_cases h : i = 0
 · have hb : (i != 0) = false := by simp [h]
   rw [if_pos h]
   clear h
   go_enter Tryz.func99, Tryz.ntmps99
   go_wp2
   go_ret
   exact ⟨rfl, rfl⟩
 · have hb : (i != 0) = true := by simp [h]
   rw [if_neg h]
   clear h
   go_enter Tryz.func99, Tryz.ntmps99
   go_wp2
   go_ret
   exact ⟨rfl, rfl⟩

theorem among_no (s : Sl) (i : Int) (w : World) (hn : s.n <= maxLen) (h : i < 0 \/ s.n <= i) :
   Calls Tryz.prog 100 #[.slice s.A s.n s.c, .int .i64 i] w fun e w' => e = .returned (.pointer none) /\ w = w' := by
 unfold maxLen at hn
 rcases h with h | h
 · go_enter Tryz.func100, Tryz.ntmps100
   go_wp2
   go_ret
   exact ⟨rfl, rfl⟩
 · have h0 : decide (i < 0) = false := by simp; omega
   go_enter Tryz.func100, Tryz.ntmps100
   go_wp2
   go_ret
   exact ⟨rfl, rfl⟩

theorem among_yes (b n c k : Nat) (w : World) (hn : n <= maxLen) (h : k < n) :
   Calls Tryz.prog 100 #[.slice (some ⟨b, 0, none⟩) n c, .int .i64 k] w fun e w' => e = .returned (.pointer (some ⟨b, k, none⟩)) /\ w = w' := by
 unfold maxLen at hn
 go_enter Tryz.func100, Tryz.ntmps100
 go_wp2
 go_ret
 exact ⟨rfl, rfl⟩
theorem only_yes (p : Addr) (w : World) :
   Calls Tryz.prog 99 #[.pointer (some p), .int .i64 0] w fun e w' => e = .returned (.pointer (some p)) /\ w = w' :=
 (only_c p 0 w).mono fun _ _ h => h
theorem only_no (p : Addr) (i : Int) (hi : ¬ i = 0) (w : World) :
   Calls Tryz.prog 99 #[.pointer (some p), .int .i64 i] w fun e w' => e = .returned (.pointer none) /\ w = w' :=
 (only_c p i w).mono fun _ _ h => ⟨by rw [h.1, if_neg hi], h.2⟩

def Found (w : World) (base g : Nat) (r : R) (m : M) (a i : Int) (e : Ending) (w' : World) : Prop :=
 ∃ q : Option Addr, e = .returned (.pointer q) /\ Lens w base g r m a i q /\ w = w'

theorem found_no {w : World} {base g : Nat} {r : R} {m : M} {a i : Int} (h : ¬ there m a i) : Found w base g r m a i (.returned (.pointer none)) w := ⟨none, rfl, h, rfl⟩
theorem found_yes {w : World} {base g : Nat} {r : R} {m : M} {a i : Int} {p : Addr} (h : Lens w base g r m a i (some p)) : Found w base g r m a i (.returned (.pointer (some p))) w := ⟨some p, rfl, h, rfl⟩

set_option maxHeartbeats 1000000 in
theorem find_out (base g : Nat) (r : R) (m : M) (cap : Addr) (a i : Int) (w : World) (hc : w.cell? cap = some (.pointer (some ⟨g, 0, none⟩)))
   (ha : -9223372036854775808 <= a) (ha' : a <= 9223372036854775807) (h : a < 1 \/ 9 < a) :
   Calls Tryz.prog 98 #[.int .i64 a, .int .i64 i, .pointer (some cap)] w (Found w base g r m a i) := by
 have hno : ¬ there m a i := by
   rintro ⟨h1, h2⟩
   rw [area_no m a h] at h2
   simp at h2; omega
 have H := found_no (w := w) (base := base) (g := g) (r := r) hno
 clear hno
 rcases h with h | h
 all_goals
   go_enter Tryz.func98, Tryz.ntmps98
   go_wp2
   go_ret
   exact H

set_option maxHeartbeats 1000000 in
theorem find_1 (base g : Nat) (r : R) (m : M) (cap : Addr) (i : Int) (w : World) (hc : w.cell? cap = some (.pointer (some ⟨g, 0, none⟩))) (H : Hold w base g r m) :
   Calls Tryz.prog 98 #[.int .i64 1, .int .i64 i, .pointer (some cap)] w (Found w base g r m 1 i) := by
 by_cases h : i = 0
 · subst h
   have HL := found_yes (lens_1 H)
   clear H
   go_enter Tryz.func98, Tryz.ntmps98
   go_wp2_with (go_at_call 99; refine (only_yes _ _).mono ?_; rintro e w' ⟨rfl, rfl⟩)
   go_ret
   exact HL
 · have hno : ¬ there m 1 i := by
     rintro ⟨h1, h2⟩
     rw [area_1] at h2
     simp at h2; omega
   have HL := found_no (w := w) (base := base) (g := g) (r := r) hno
   have HI := lh h
   clear H hno h
   go_enter Tryz.func98, Tryz.ntmps98
   go_wp2_with (go_at_call 99; refine (only_no _ _ HI.out _).mono ?_; rintro e w' ⟨rfl, rfl⟩)
   go_ret
   exact HL

set_option maxHeartbeats 1000000 in
theorem find_2 (base g : Nat) (r : R) (m : M) (cap : Addr) (i : Int) (w : World) (hc : w.cell? cap = some (.pointer (some ⟨g, 0, none⟩))) (H : Hold w base g r m) :
   Calls Tryz.prog 98 #[.int .i64 2, .int .i64 i, .pointer (some cap)] w (Found w base g r m 2 i) := by
 by_cases h : i = 0
 · subst h
   have HL := found_yes (lens_2 H)
   clear H
   go_enter Tryz.func98, Tryz.ntmps98
   go_wp2_with (go_at_call 99; refine (only_yes _ _).mono ?_; rintro e w' ⟨rfl, rfl⟩)
   go_ret
   exact HL
 · have hno : ¬ there m 2 i := by
     rintro ⟨h1, h2⟩
     rw [area_2] at h2
     simp at h2; omega
   have HL := found_no (w := w) (base := base) (g := g) (r := r) hno
   have HI := lh h
   clear H hno h
   go_enter Tryz.func98, Tryz.ntmps98
   go_wp2_with (go_at_call 99; refine (only_no _ _ HI.out _).mono ?_; rintro e w' ⟨rfl, rfl⟩)
   go_ret
   exact HL

set_option maxHeartbeats 1000000 in
theorem find_5 (base g : Nat) (r : R) (m : M) (cap : Addr) (i : Int) (w : World) (hc : w.cell? cap = some (.pointer (some ⟨g, 0, none⟩))) (H : Hold w base g r m) :
   Calls Tryz.prog 98 #[.int .i64 5, .int .i64 i, .pointer (some cap)] w (Found w base g r m 5 i) := by
 by_cases h : i = 0
 · subst h
   have HL := found_yes (lens_5 H)
   clear H
   go_enter Tryz.func98, Tryz.ntmps98
   go_wp2_with (go_at_call 99; refine (only_yes _ _).mono ?_; rintro e w' ⟨rfl, rfl⟩)
   go_ret
   exact HL
 · have hno : ¬ there m 5 i := by
     rintro ⟨h1, h2⟩
     rw [area_5] at h2
     simp at h2; omega
   have HL := found_no (w := w) (base := base) (g := g) (r := r) hno
   have HI := lh h
   clear H hno h
   go_enter Tryz.func98, Tryz.ntmps98
   go_wp2_with (go_at_call 99; refine (only_no _ _ HI.out _).mono ?_; rintro e w' ⟨rfl, rfl⟩)
   go_ret
   exact HL

set_option maxHeartbeats 1000000 in
theorem find_6 (base g : Nat) (r : R) (m : M) (cap : Addr) (i : Int) (w : World) (hc : w.cell? cap = some (.pointer (some ⟨g, 0, none⟩))) (H : Hold w base g r m) :
   Calls Tryz.prog 98 #[.int .i64 6, .int .i64 i, .pointer (some cap)] w (Found w base g r m 6 i) := by
 by_cases h : i = 0
 · subst h
   have HL := found_yes (lens_6 H)
   clear H
   go_enter Tryz.func98, Tryz.ntmps98
   go_wp2_with (go_at_call 99; refine (only_yes _ _).mono ?_; rintro e w' ⟨rfl, rfl⟩)
   go_ret
   exact HL
 · have hno : ¬ there m 6 i := by
     rintro ⟨h1, h2⟩
     rw [area_6] at h2
     simp at h2; omega
   have HL := found_no (w := w) (base := base) (g := g) (r := r) hno
   have HI := lh h
   clear H hno h
   go_enter Tryz.func98, Tryz.ntmps98
   go_wp2_with (go_at_call 99; refine (only_no _ _ HI.out _).mono ?_; rintro e w' ⟨rfl, rfl⟩)
   go_ret
   exact HL

set_option maxHeartbeats 1000000 in
theorem find_3 (base g : Nat) (r : R) (m : M) (cap : Addr) (i : Int) (w : World) (hc : w.cell? cap = some (.pointer (some ⟨g, 0, none⟩))) (H : Hold w base g r m) :
   Calls Tryz.prog 98 #[.int .i64 3, .int .i64 i, .pointer (some cap)] w (Found w base g r m 3 i) := by
 have hl : la 3 := by unfold la; omega
 have ho := (H.2.2.2.2.2.2.2.1 3 hl).n_
 rw [area_3] at ho
 obtain ⟨hn, hnc, hcm, _⟩ := ho
 have hn : r.L.n = m.li.length := hn
 have hm : r.L.n <= maxLen := Nat.le_trans hnc hcm
 have hcell : w.cell? ⟨g, 2, none⟩ = some (.slice r.L.A r.L.n r.L.c) := H.1.cell 2
 by_cases h : there m 3 i
 · obtain ⟨k, rfl⟩ : ∃ k : Nat, i = k := ⟨i.toNat, by have := h.1; omega⟩
   have hk : k < (m.area 3).length := by have := h.2; omega
   obtain ⟨b, hA, HL0⟩ := lens_list H hl hk
   have hA : r.L.A = some ⟨b, 0, none⟩ := hA
   have HL := found_yes HL0
   have hkn : k < r.L.n := by rw [hn]; exact hk
   rw [hA] at hcell
   clear hA hn H hl HL0 hk h hnc hcm
   go_enter Tryz.func98, Tryz.ntmps98
   go_wp2_with (go_at_call 100; refine (among_yes _ _ _ _ _ hm hkn).mono ?_; rintro e w' ⟨rfl, rfl⟩)
   go_ret
   exact HL
 · have hout : i < 0 \/ (r.L.n : Int) <= i := by
     rw [hn]
     by_cases h1 : i < 0
     · exact .inl h1
     · refine .inr ?_
       by_cases h2 : i < (m.li.length : Int)
       · exact absurd (show there m 3 i from ⟨by omega, h2⟩) h
       · omega
   have HL := found_no (w := w) (base := base) (g := g) (r := r) h
   have HO : Hid (i < 0 \/ (r.L.n : Int) <= i) := hout
   clear hn H hl h hnc hcm hout
   go_enter Tryz.func98, Tryz.ntmps98
   go_wp2_with (go_at_call 100; refine (among_no _ _ _ hm HO.out).mono ?_; rintro e w' ⟨rfl, rfl⟩)
   go_ret
   exact HL

set_option maxHeartbeats 1000000 in
theorem find_4 (base g : Nat) (r : R) (m : M) (cap : Addr) (i : Int) (w : World) (hc : w.cell? cap = some (.pointer (some ⟨g, 0, none⟩))) (H : Hold w base g r m) :
   Calls Tryz.prog 98 #[.int .i64 4, .int .i64 i, .pointer (some cap)] w (Found w base g r m 4 i) := by
 have hl : la 4 := by unfold la; omega
 have ho := (H.2.2.2.2.2.2.2.1 4 hl).n_
 rw [area_4] at ho
 obtain ⟨hn, hnc, hcm, _⟩ := ho
 have hn : r.P.n = m.pi.length := hn
 have hm : r.P.n <= maxLen := Nat.le_trans hnc hcm
 have hcell : w.cell? ⟨g, 3, none⟩ = some (.slice r.P.A r.P.n r.P.c) := H.1.cell 3
 by_cases h : there m 4 i
 · obtain ⟨k, rfl⟩ : ∃ k : Nat, i = k := ⟨i.toNat, by have := h.1; omega⟩
   have hk : k < (m.area 4).length := by have := h.2; omega
   obtain ⟨b, hA, HL0⟩ := lens_list H hl hk
   have hA : r.P.A = some ⟨b, 0, none⟩ := hA
   have HL := found_yes HL0
   have hkn : k < r.P.n := by rw [hn]; exact hk
   rw [hA] at hcell
   clear hA hn H hl HL0 hk h hnc hcm
   go_enter Tryz.func98, Tryz.ntmps98
   go_wp2_with (go_at_call 100; refine (among_yes _ _ _ _ _ hm hkn).mono ?_; rintro e w' ⟨rfl, rfl⟩)
   go_ret
   exact HL
 · have hout : i < 0 \/ (r.P.n : Int) <= i := by
     rw [hn]
     by_cases h1 : i < 0
     · exact .inl h1
     · refine .inr ?_
       by_cases h2 : i < (m.pi.length : Int)
       · exact absurd (show there m 4 i from ⟨by omega, h2⟩) h
       · omega
   have HL := found_no (w := w) (base := base) (g := g) (r := r) h
   have HO : Hid (i < 0 \/ (r.P.n : Int) <= i) := hout
   clear hn H hl h hnc hcm hout
   go_enter Tryz.func98, Tryz.ntmps98
   go_wp2_with (go_at_call 100; refine (among_no _ _ _ hm HO.out).mono ?_; rintro e w' ⟨rfl, rfl⟩)
   go_ret
   exact HL

set_option maxHeartbeats 1000000 in
theorem find_7 (base g : Nat) (r : R) (m : M) (cap : Addr) (i : Int) (w : World) (hc : w.cell? cap = some (.pointer (some ⟨g, 0, none⟩))) (H : Hold w base g r m) :
   Calls Tryz.prog 98 #[.int .i64 7, .int .i64 i, .pointer (some cap)] w (Found w base g r m 7 i) := by
 have hl : la 7 := by unfold la; omega
 have ho := (H.2.2.2.2.2.2.2.1 7 hl).n_
 rw [area_7] at ho
 obtain ⟨hn, hnc, hcm, _⟩ := ho
 have hn : r.K.n = m.lk.length := hn
 have hm : r.K.n <= maxLen := Nat.le_trans hnc hcm
 have hcell : w.cell? ⟨g, 6, none⟩ = some (.slice r.K.A r.K.n r.K.c) := H.1.cell 6
 by_cases h : there m 7 i
 · obtain ⟨k, rfl⟩ : ∃ k : Nat, i = k := ⟨i.toNat, by have := h.1; omega⟩
   have hk : k < (m.area 7).length := by have := h.2; omega
   obtain ⟨b, hA, HL0⟩ := lens_list H hl hk
   have hA : r.K.A = some ⟨b, 0, none⟩ := hA
   have HL := found_yes HL0
   have hkn : k < r.K.n := by rw [hn]; exact hk
   rw [hA] at hcell
   clear hA hn H hl HL0 hk h hnc hcm
   go_enter Tryz.func98, Tryz.ntmps98
   go_wp2_with (go_at_call 100; refine (among_yes _ _ _ _ _ hm hkn).mono ?_; rintro e w' ⟨rfl, rfl⟩)
   go_ret
   exact HL
 · have hout : i < 0 \/ (r.K.n : Int) <= i := by
     rw [hn]
     by_cases h1 : i < 0
     · exact .inl h1
     · refine .inr ?_
       by_cases h2 : i < (m.lk.length : Int)
       · exact absurd (show there m 7 i from ⟨by omega, h2⟩) h
       · omega
   have HL := found_no (w := w) (base := base) (g := g) (r := r) h
   have HO : Hid (i < 0 \/ (r.K.n : Int) <= i) := hout
   clear hn H hl h hnc hcm hout
   go_enter Tryz.func98, Tryz.ntmps98
   go_wp2_with (go_at_call 100; refine (among_no _ _ _ hm HO.out).mono ?_; rintro e w' ⟨rfl, rfl⟩)
   go_ret
   exact HL

set_option maxHeartbeats 1000000 in
theorem find_8 (base g : Nat) (r : R) (m : M) (cap : Addr) (i : Int) (w : World) (hc : w.cell? cap = some (.pointer (some ⟨g, 0, none⟩))) (H : Hold w base g r m) :
   Calls Tryz.prog 98 #[.int .i64 8, .int .i64 i, .pointer (some cap)] w (Found w base g r m 8 i) := by
 have hl : la 8 := by unfold la; omega
 have ho := (H.2.2.2.2.2.2.2.1 8 hl).n_
 rw [area_8] at ho
 obtain ⟨hn, hnc, hcm, _⟩ := ho
 have hn : r.X.n = m.nx.length := hn
 have hm : r.X.n <= maxLen := Nat.le_trans hnc hcm
 have hcell : w.cell? ⟨g, 7, none⟩ = some (.slice r.X.A r.X.n r.X.c) := H.1.cell 7
 by_cases h : there m 8 i
 · obtain ⟨k, rfl⟩ : ∃ k : Nat, i = k := ⟨i.toNat, by have := h.1; omega⟩
   have hk : k < (m.area 8).length := by have := h.2; omega
   obtain ⟨b, hA, HL0⟩ := lens_list H hl hk
   have hA : r.X.A = some ⟨b, 0, none⟩ := hA
   have HL := found_yes HL0
   have hkn : k < r.X.n := by rw [hn]; exact hk
   rw [hA] at hcell
   clear hA hn H hl HL0 hk h hnc hcm
   go_enter Tryz.func98, Tryz.ntmps98
   go_wp2_with (go_at_call 100; refine (among_yes _ _ _ _ _ hm hkn).mono ?_; rintro e w' ⟨rfl, rfl⟩)
   go_ret
   exact HL
 · have hout : i < 0 \/ (r.X.n : Int) <= i := by
     rw [hn]
     by_cases h1 : i < 0
     · exact .inl h1
     · refine .inr ?_
       by_cases h2 : i < (m.nx.length : Int)
       · exact absurd (show there m 8 i from ⟨by omega, h2⟩) h
       · omega
   have HL := found_no (w := w) (base := base) (g := g) (r := r) h
   have HO : Hid (i < 0 \/ (r.X.n : Int) <= i) := hout
   clear hn H hl h hnc hcm hout
   go_enter Tryz.func98, Tryz.ntmps98
   go_wp2_with (go_at_call 100; refine (among_no _ _ _ hm HO.out).mono ?_; rintro e w' ⟨rfl, rfl⟩)
   go_ret
   exact HL

set_option maxHeartbeats 1000000 in
theorem find_9 (base g : Nat) (r : R) (m : M) (cap : Addr) (i : Int) (w : World) (hc : w.cell? cap = some (.pointer (some ⟨g, 0, none⟩))) (H : Hold w base g r m) :
   Calls Tryz.prog 98 #[.int .i64 9, .int .i64 i, .pointer (some cap)] w (Found w base g r m 9 i) := by
 have hl : la 9 := by unfold la; omega
 have ho := (H.2.2.2.2.2.2.2.1 9 hl).n_
 rw [area_9] at ho
 obtain ⟨hn, hnc, hcm, _⟩ := ho
 have hn : r.S.n = m.sl.length := hn
 have hm : r.S.n <= maxLen := Nat.le_trans hnc hcm
 have hcell : w.cell? ⟨g, 8, none⟩ = some (.slice r.S.A r.S.n r.S.c) := H.1.cell 8
 by_cases h : there m 9 i
 · obtain ⟨k, rfl⟩ : ∃ k : Nat, i = k := ⟨i.toNat, by have := h.1; omega⟩
   have hk : k < (m.area 9).length := by have := h.2; omega
   obtain ⟨b, hA, HL0⟩ := lens_list H hl hk
   have hA : r.S.A = some ⟨b, 0, none⟩ := hA
   have HL := found_yes HL0
   have hkn : k < r.S.n := by rw [hn]; exact hk
   rw [hA] at hcell
   clear hA hn H hl HL0 hk h hnc hcm
   go_enter Tryz.func98, Tryz.ntmps98
   go_wp2_with (go_at_call 100; refine (among_yes _ _ _ _ _ hm hkn).mono ?_; rintro e w' ⟨rfl, rfl⟩)
   go_ret
   exact HL
 · have hout : i < 0 \/ (r.S.n : Int) <= i := by
     rw [hn]
     by_cases h1 : i < 0
     · exact .inl h1
     · refine .inr ?_
       by_cases h2 : i < (m.sl.length : Int)
       · exact absurd (show there m 9 i from ⟨by omega, h2⟩) h
       · omega
   have HL := found_no (w := w) (base := base) (g := g) (r := r) h
   have HO : Hid (i < 0 \/ (r.S.n : Int) <= i) := hout
   clear hn H hl h hnc hcm hout
   go_enter Tryz.func98, Tryz.ntmps98
   go_wp2_with (go_at_call 100; refine (among_no _ _ _ hm HO.out).mono ?_; rintro e w' ⟨rfl, rfl⟩)
   go_ret
   exact HL

theorem find_c (base g : Nat) (r : R) (m : M) (cap : Addr) (a i : Int) (w : World) (hc : w.cell? cap = some (.pointer (some ⟨g, 0, none⟩))) (H : Hold w base g r m)
   (ha : -9223372036854775808 <= a) (ha' : a <= 9223372036854775807) :
   Calls Tryz.prog 98 #[.int .i64 a, .int .i64 i, .pointer (some cap)] w (Found w base g r m a i) := by
 by_cases h : a < 1 \/ 9 < a
 · exact find_out base g r m cap a i w hc ha ha' h
 · rcases nine h with rfl | rfl | rfl | rfl | rfl | rfl | rfl | rfl | rfl
   · exact find_1 base g r m cap i w hc H
   · exact find_2 base g r m cap i w hc H
   · exact find_3 base g r m cap i w hc H
   · exact find_4 base g r m cap i w hc H
   · exact find_5 base g r m cap i w hc H
   · exact find_6 base g r m cap i w hc H
   · exact find_7 base g r m cap i w hc H
   · exact find_8 base g r m cap i w hc H
   · exact find_9 base g r m cap i w hc H
end Go.Proofs.YtffppdcpiieapaaGreat.Storec
