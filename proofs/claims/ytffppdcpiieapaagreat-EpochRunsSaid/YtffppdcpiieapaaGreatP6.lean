/- A part of the proof. -/
import Derived.Test.YtffppdcpiieapaaGreatP4
import Derived.Test.YtffppdcpiieapaaGreatP5
namespace Go.Proofs.YtffppdcpiieapaaGreat.Procc
open Go.RowKit Memc
set_option linter.unusedVariables false
set_option maxRecDepth 100000

theorem wpList_app2p {w : World} {ops : Array Oper} {rest : List Oper} {o : Oper} {a : Act} {Q : Exit -> Act -> World -> Prop} (hgd : o.guard = none) (x y : Operand) (t : TypeId) (ho : o.op = .call { callee := .builtin .append, args := #[x, y], argTypes := #[t, t] })
   (base : Nat) (E : TypeId) (i : TypeInfo) (z : Value) (size bytes : Nat) (ht : Tryz.prog.underlying t = some (.slice E)) (hi : Tryz.prog.info? E = some i) (hz : i.zero = some z) (hsize : i.size = size) (hby : i.bytes = bytes) (hzs : z.cells.size = size) (hsz : 0 < size)
   (s : Sl) (n : Nat) (xs : List Value) (hx : a.eval x = .slice s.A s.n s.c) (hown : Row w base E size s n xs) (gy : Nat) (news : List Value) (hy : a.eval y = .slice (some ⟨gy, 0, none⟩) 1 1) (hl : news.length = size)
   (hnews : ∀ j u, news[j]? = some u -> w.cell? ⟨gy, j, none⟩ = some u) (h1 : ∀ u ∈ news, u.oneCell' = true) (h63 : n < 1000000) (hb1 : bytes <= 1000) (hb : base <= w.heap.size)
   (hk : ∀ s' w', Row w' base E size s' (n + 1) (xs ++ news) -> Only (bl s) w w' -> (∀ g, bl s' g -> bl s g \/ g = w.heap.size) -> wpList Tryz.prog ops Q rest (a.put o.dst (.slice s'.A s'.n s'.c)) w') : wpList Tryz.prog ops Q (o :: rest) a w :=
 wpList_plain hgd fun _ hK => wp_app2 x y t ho base E i z size bytes ht hi hz hsize hby hzs hsz s n xs hx hown gy news hy hl hnews h1 h63 hb1 hb fun s' w' h2 h3 h4 => hK _ _ (hk s' w' h2 h3 h4)
def SafeL (l : List Cap1) : Prop := ∀ x ∈ l, x.t ≠ 85 /\ x.t ≠ 176 /\ x.t ≠ 76 /\ x.t ≠ 78 /\ x.t ≠ 68 /\ x.t ≠ 50 /\ x.t ≠ 35 /\ x.t ≠ 36
theorem Kept.only {Q : Nat -> Prop} {w w' : World} {l : List Cap1} (h : Kept w l) (ho : Only Q w w') (hq : ∀ x ∈ l, ¬ Q x.g) : Kept w' l := fun x hx => (h x hx).only ho (hq x hx)
theorem Kept.alloc {w : World} {l : List Cap1} (h : Kept w l) (o : Obj) : Kept (w.alloc o) l := fun x hx => (h x hx).alloc o
theorem flatF_snoc (fs : List (Int × Bool)) (f : Int × Bool) : flatF (fs ++ [f]) = flatF fs ++ fcells f := by simp [flatF]
theorem Going.snoc {p : Pl} {fs : List (Int × Bool)} {a : Acc} (h : Going p fs) (ha : p fs = .ask a) (f : Int × Bool) (hf : 0 <= f.1 /\ f.1 <= 18446744073709551615) : Going p (fs ++ [f]) := ⟨fun k hk => by
 rw [List.length_append] at hk
 simp only [List.length_cons, List.length_nil] at hk
 by_cases hlt : k < fs.length
 · rw [List.take_append_of_le_length (by omega)]
   exact h.1 k hlt
 · obtain rfl : k = fs.length := by omega
   rw [List.take_left]
   exact ⟨a, ha⟩, fun x hx => by
 rcases List.mem_append.1 hx with h1 | h1
 · exact h.2 x h1
 · rw [List.mem_singleton.1 h1]; exact hf⟩
theorem going_nil (p : Pl) : Going p [] := ⟨fun k hk => absurd hk (Nat.not_lt_zero _), fun x hx => by cases hx⟩

set_option maxHeartbeats 2000000 in
theorem nextg_first (w : World) (base P F : Nat) (cs : Array Value) (l : List Cap1) (p : Pl) (a : Acc)
   (hcs : cs = (l.map Cap1.ptr).toArray) (hme : Meets F l p) (hq : Blk w P 85 #[.func (.func F) #[] cs, .slice none 0 0, .bool false, .bool false, .int .i64 0, .int .u32 0]) (hk : Kept w l) (hsf : SafeL l) (hpf : p [] = .ask a) :
   Calls Tryz.prog 116 #[.pointer (some ⟨P, 0, none⟩), .int .u64 0, .bool false] w fun e w' => e = .returned (.tuple #[.agg #[.int .i64 a.d, .int .i64 a.ar, .int .i64 a.at_, .int .u64 a.old, .int .u64 a.new], .bool true]) /\ Blk w' P 85 #[.func (.func F) #[] cs, .slice none 0 0, .bool true, .bool false, .int .i64 0, .int .u32 0] /\ Only (fun g => g = P) w w' := by
 have hcq := hq.cell
 have hfq := hq.frozen
 have hzq := hq.lt
 have HQ := lh hq
 clear hq
 have HKL := lh hk
 have HSF := lh hsf
 have HME := lh hme
 have HCS := lh hcs
 have HPF := lh hpf
 clear hk hsf hme hcs hpf
 have BX : Hid (Blk (w.alloc (.cells #[.int .i64 0, .int .i64 0, .int .i64 0, .int .u64 0, .int .u64 0] 66)) w.heap.size 66 #[.int .i64 0, .int .i64 0, .int .i64 0, .int .u64 0, .int .u64 0]) := lh (Blk.new _ _ _)
 go_enter Tryz.func116, Tryz.ntmps116
 go_wp2_with fail
 have BQ := lh (HQ.out.alloc (.cells #[.int .i64 0, .int .i64 0, .int .i64 0, .int .u64 0, .int .u64 0] 66))
 have BL := lh (HKL.out.alloc (.cells #[.int .i64 0, .int .i64 0, .int .i64 0, .int .u64 0, .int .u64 0] 66))
 have OV : Hid (Only (fun g => g = P) w (w.alloc (.cells #[.int .i64 0, .int .i64 0, .int .i64 0, .int .u64 0, .int .u64 0] 66))) := lh ((Only.refl _ _).alloc _)
 have hz1 : w.heap.size < (w.alloc (.cells #[.int .i64 0, .int .i64 0, .int .i64 0, .int .u64 0, .int .u64 0] 66)).heap.size := by simp
 generalize w.alloc (.cells #[.int .i64 0, .int .i64 0, .int .i64 0, .int .u64 0, .int .u64 0] 66) = V at BX BQ BL OV hz1 ⊢
 refine (throughg_ask V base P F cs l p ⟨none, 0, 0⟩ [] a false false 0 0 HCS.out HME.out BQ.out (row_nil _ _ _ _) BL.out (Nat.zero_le _) (going_nil _) HPF.out).mono ?_
 rintro e w1 ⟨rfl, hq1, ho1⟩
 have Q1 := lh hq1
 have X1 := lh (BX.out.only ho1 (by omega))
 have O1 : Hid (Only (fun g => g = P) w w1) := lh (OV.out.next ho1 (fun k hk hg => hg))
 have hxq := Q1.out.cell
 have hxqf := Q1.out.frozen
 have hxx := X1.out.cell
 have hxxf := X1.out.frozen
 have n1 : ¬ P = w.heap.size := by omega
 have n2 : ¬ w.heap.size = P := by omega
 clear hq1 ho1 hcq hfq
 go_wp2
 go_region
 have XX : Hid (Blk ((((((((((((w1.setCell ⟨w.heap.size, 0, none⟩ (.int .i64 a.d)).setCell ⟨w.heap.size, 1, none⟩ (.int .i64 a.ar)).setCell ⟨w.heap.size, 2, none⟩ (.int .i64 a.at_)).setCell ⟨w.heap.size, 3, none⟩ (.int .u64 a.old)).setCell ⟨w.heap.size, 4, none⟩ (.int .u64 a.new)).setCell ⟨P, 2, none⟩ (.bool true)).setCell ⟨w.heap.size, 0, none⟩ (.int .i64 a.d)).setCell ⟨w.heap.size, 1, none⟩ (.int .i64 a.ar)).setCell ⟨w.heap.size, 2, none⟩ (.int .i64 a.at_)).setCell ⟨w.heap.size, 3, none⟩ (.int .u64 a.old)).setCell ⟨w.heap.size, 4, none⟩ (.int .u64 a.new)).drew) w.heap.size 66 #[.int .i64 a.d, .int .i64 a.ar, .int .i64 a.at_, .int .u64 a.old, .int .u64 a.new]) := lh (by have h_ := ((((((((((((X1.out).set_ 0 (.int .i64 a.d)).set_ 1 (.int .i64 a.ar)).set_ 2 (.int .i64 a.at_)).set_ 3 (.int .u64 a.old)).set_ 4 (.int .u64 a.new)).far (p := ⟨P, 2, none⟩) (show ¬ w.heap.size = P by omega) (.bool true)).set_ 0 (.int .i64 a.d)).set_ 1 (.int .i64 a.ar)).set_ 2 (.int .i64 a.at_)).set_ 3 (.int .u64 a.old)).set_ 4 (.int .u64 a.new)).drew; simpa only [sA, sZ, sC] using h_)
 have QQ : Hid (Blk ((((((((((((w1.setCell ⟨w.heap.size, 0, none⟩ (.int .i64 a.d)).setCell ⟨w.heap.size, 1, none⟩ (.int .i64 a.ar)).setCell ⟨w.heap.size, 2, none⟩ (.int .i64 a.at_)).setCell ⟨w.heap.size, 3, none⟩ (.int .u64 a.old)).setCell ⟨w.heap.size, 4, none⟩ (.int .u64 a.new)).setCell ⟨P, 2, none⟩ (.bool true)).setCell ⟨w.heap.size, 0, none⟩ (.int .i64 a.d)).setCell ⟨w.heap.size, 1, none⟩ (.int .i64 a.ar)).setCell ⟨w.heap.size, 2, none⟩ (.int .i64 a.at_)).setCell ⟨w.heap.size, 3, none⟩ (.int .u64 a.old)).setCell ⟨w.heap.size, 4, none⟩ (.int .u64 a.new)).drew) P 85 #[.func (.func F) #[] cs, .slice none 0 0, .bool true, .bool false, .int .i64 0, .int .u32 0]) := lh (by have h_ := ((((((((((((Q1.out).far (p := ⟨w.heap.size, 0, none⟩) (show ¬ P = w.heap.size by omega) (.int .i64 a.d)).far (p := ⟨w.heap.size, 1, none⟩) (show ¬ P = w.heap.size by omega) (.int .i64 a.ar)).far (p := ⟨w.heap.size, 2, none⟩) (show ¬ P = w.heap.size by omega) (.int .i64 a.at_)).far (p := ⟨w.heap.size, 3, none⟩) (show ¬ P = w.heap.size by omega) (.int .u64 a.old)).far (p := ⟨w.heap.size, 4, none⟩) (show ¬ P = w.heap.size by omega) (.int .u64 a.new)).set_ 2 (.bool true)).far (p := ⟨w.heap.size, 0, none⟩) (show ¬ P = w.heap.size by omega) (.int .i64 a.d)).far (p := ⟨w.heap.size, 1, none⟩) (show ¬ P = w.heap.size by omega) (.int .i64 a.ar)).far (p := ⟨w.heap.size, 2, none⟩) (show ¬ P = w.heap.size by omega) (.int .i64 a.at_)).far (p := ⟨w.heap.size, 3, none⟩) (show ¬ P = w.heap.size by omega) (.int .u64 a.old)).far (p := ⟨w.heap.size, 4, none⟩) (show ¬ P = w.heap.size by omega) (.int .u64 a.new)).drew; simpa only [sA, sZ, sC] using h_)
 have OO : Hid (Only (fun g => g = P) w ((((((((((((w1.setCell ⟨w.heap.size, 0, none⟩ (.int .i64 a.d)).setCell ⟨w.heap.size, 1, none⟩ (.int .i64 a.ar)).setCell ⟨w.heap.size, 2, none⟩ (.int .i64 a.at_)).setCell ⟨w.heap.size, 3, none⟩ (.int .u64 a.old)).setCell ⟨w.heap.size, 4, none⟩ (.int .u64 a.new)).setCell ⟨P, 2, none⟩ (.bool true)).setCell ⟨w.heap.size, 0, none⟩ (.int .i64 a.d)).setCell ⟨w.heap.size, 1, none⟩ (.int .i64 a.ar)).setCell ⟨w.heap.size, 2, none⟩ (.int .i64 a.at_)).setCell ⟨w.heap.size, 3, none⟩ (.int .u64 a.old)).setCell ⟨w.heap.size, 4, none⟩ (.int .u64 a.new)).drew)) := lh (((((((((((((O1.out).set_ ⟨w.heap.size, 0, none⟩ (.inr (Nat.le_refl _)) _).set_ ⟨w.heap.size, 1, none⟩ (.inr (Nat.le_refl _)) _).set_ ⟨w.heap.size, 2, none⟩ (.inr (Nat.le_refl _)) _).set_ ⟨w.heap.size, 3, none⟩ (.inr (Nat.le_refl _)) _).set_ ⟨w.heap.size, 4, none⟩ (.inr (Nat.le_refl _)) _).set_ ⟨P, 2, none⟩ (.inl rfl) _).set_ ⟨w.heap.size, 0, none⟩ (.inr (Nat.le_refl _)) _).set_ ⟨w.heap.size, 1, none⟩ (.inr (Nat.le_refl _)) _).set_ ⟨w.heap.size, 2, none⟩ (.inr (Nat.le_refl _)) _).set_ ⟨w.heap.size, 3, none⟩ (.inr (Nat.le_refl _)) _).set_ ⟨w.heap.size, 4, none⟩ (.inr (Nat.le_refl _)) _).drew)
 generalize ((((((((((((w1.setCell ⟨w.heap.size, 0, none⟩ (.int .i64 a.d)).setCell ⟨w.heap.size, 1, none⟩ (.int .i64 a.ar)).setCell ⟨w.heap.size, 2, none⟩ (.int .i64 a.at_)).setCell ⟨w.heap.size, 3, none⟩ (.int .u64 a.old)).setCell ⟨w.heap.size, 4, none⟩ (.int .u64 a.new)).setCell ⟨P, 2, none⟩ (.bool true)).setCell ⟨w.heap.size, 0, none⟩ (.int .i64 a.d)).setCell ⟨w.heap.size, 1, none⟩ (.int .i64 a.ar)).setCell ⟨w.heap.size, 2, none⟩ (.int .i64 a.at_)).setCell ⟨w.heap.size, 3, none⟩ (.int .u64 a.old)).setCell ⟨w.heap.size, 4, none⟩ (.int .u64 a.new)).drew) = W5 at XX QQ OO ⊢
 have hx5 := XX.out.cell
 clear hxq hxqf hxx hxxf
 go_wp2
 refine bodyPost_ret (v := .tuple #[.agg #[.int .i64 a.d, .int .i64 a.ar, .int .i64 a.at_, .int .u64 a.old, .int .u64 a.new], .bool true]) (by simp [results, Tryz.results116, go_sem, hx5]) rfl ⟨rfl, QQ.out, OO.out⟩

set_option maxHeartbeats 4000000 in
theorem nextg_ask (w : World) (base P F : Nat) (cs : Array Value) (l : List Cap1) (p : Pl) (s : Sl) (fs : List (Int × Bool)) (a : Acc) (was : Int) (dn : Bool)
   (hcs : cs = (l.map Cap1.ptr).toArray) (hme : Meets F l p) (hq : Blk w P 85 #[.func (.func F) #[] cs, .slice s.A s.n s.c, .bool true, .bool false, .int .i64 0, .int .u32 0]) (hr : Row w base 176 2 s fs.length (flatF fs)) (hk : Kept w l) (hsf : SafeL l) (hn : fs.length < 100000) (hg : Going p (fs ++ [(was, dn)])) (hb : base <= w.heap.size) (hpf : p (fs ++ [(was, dn)]) = .ask a) :
   Calls Tryz.prog 116 #[.pointer (some ⟨P, 0, none⟩), .int .u64 was, .bool dn] w fun e w' => ∃ s1 : Sl, e = .returned (.tuple #[.agg #[.int .i64 a.d, .int .i64 a.ar, .int .i64 a.at_, .int .u64 a.old, .int .u64 a.new], .bool true]) /\ Blk w' P 85 #[.func (.func F) #[] cs, .slice s1.A s1.n s1.c, .bool true, .bool false, .int .i64 0, .int .u32 0] /\ Row w' base 176 2 s1 (fs ++ [(was, dn)]).length (flatF (fs ++ [(was, dn)])) /\ Only (fun g => g = P \/ bl s g) w w' /\ ∀ g, bl s1 g -> bl s g \/ w.heap.size <= g := by
 have hcq := hq.cell
 have hfq := hq.frozen
 have hzq := hq.lt
 have HQ := lh hq
 clear hq
 obtain ⟨i0, hi0, hz0, hz1, hz2⟩ := info_parts finding_cell
 have HR := lh hr
 have HKL := lh hk
 have HSF := lh hsf
 have HME := lh hme
 have HCS := lh hcs
 have HPF := lh hpf
 have HG := lh hg
 have HB := lh hb
 clear hr hk hsf hme hcs hpf hg hb
 have BX : Hid (Blk ((w.alloc (.cells #[.int .i64 0, .int .i64 0, .int .i64 0, .int .u64 0, .int .u64 0] 66)).alloc (.cells #[.int .u64 was, .bool dn] 176)) w.heap.size 66 #[.int .i64 0, .int .i64 0, .int .i64 0, .int .u64 0, .int .u64 0]) := lh ((Blk.new _ _ _).alloc _)
 have BF : Hid (Blk ((w.alloc (.cells #[.int .i64 0, .int .i64 0, .int .i64 0, .int .u64 0, .int .u64 0] 66)).alloc (.cells #[.int .u64 was, .bool dn] 176)) (w.heap.size + 1) 176 #[.int .u64 was, .bool dn]) := lh (blk_at (by simp))
 have BQ := lh ((HQ.out.alloc (.cells #[.int .i64 0, .int .i64 0, .int .i64 0, .int .u64 0, .int .u64 0] 66)).alloc (.cells #[.int .u64 was, .bool dn] 176))
 have BR := lh ((HR.out.alloc (.cells #[.int .i64 0, .int .i64 0, .int .i64 0, .int .u64 0, .int .u64 0] 66)).alloc (.cells #[.int .u64 was, .bool dn] 176))
 have BL := lh ((HKL.out.alloc (.cells #[.int .i64 0, .int .i64 0, .int .i64 0, .int .u64 0, .int .u64 0] 66)).alloc (.cells #[.int .u64 was, .bool dn] 176))
 have OV : Hid (Only (fun g => g = P \/ bl s g) w ((w.alloc (.cells #[.int .i64 0, .int .i64 0, .int .i64 0, .int .u64 0, .int .u64 0] 66)).alloc (.cells #[.int .u64 was, .bool dn] 176))) := lh (((Only.refl _ _).alloc _).alloc _)
 have hnews : ∀ (j : Nat) (u : Value), ([.int .u64 was, .bool dn] : List Value)[j]? = some u -> (((w.alloc (.cells #[.int .i64 0, .int .i64 0, .int .i64 0, .int .u64 0, .int .u64 0] 66)).alloc (.cells #[.int .u64 was, .bool dn] 176))).cell? ⟨w.heap.size + 1, j, none⟩ = some u := fun j u hj => (BF.out.cell j).trans (by simpa using hj)
 have HNW := lh hnews
 have NX_ : Hid (∀ g, bl s g -> ¬ g = w.heap.size) := lh (fun g hg e => by have := (HR.out.lt hg).2; omega)
 have NQ : Hid (∀ g, bl s g -> ¬ g = P) := lh (fun g hg => HR.out.ne HQ.out (by decide) g hg)
 have hq1 : P < w.heap.size + 1 := by omega
 clear hnews
 go_enter Tryz.func116, Tryz.ntmps116
 go_wp2_with (at_builtin; refine wpList_app2p rfl _ _ 83 rfl base 176 i0 _ 2 16 Tryz.underlying83 hi0 hz0 hz1 hz2 rfl (by decide) s fs.length (flatF fs) rfl BR.out (w.heap.size + 1) [.int .u64 was, .bool dn] rfl rfl HNW.out (by simp [Value.oneCell']) (by omega) (by decide) (Nat.le_trans HB.out (by simp; omega)) ?_; intro s1 w1 hr1 ho1 hw1; go_must (have R1 := lh hr1; have Q1 := lh (BQ.out.only ho1 (fun hb => NQ.out P hb rfl)); have X1 := lh (BX.out.only ho1 (fun hb => NX_.out _ hb rfl)); have L1 := lh (BL.out.only ho1 (fun x hx hb => BR.out.ne (BL.out x hx) (Ne.symm (HSF.out x hx).2.1) _ hb rfl)); have O1 : Hid (Only (fun g => g = P \/ bl s g) w w1) := lh (OV.out.next ho1 (fun k hk hb => .inr hb)); have HW1 : Hid (∀ g, bl s1 g -> bl s g \/ w.heap.size <= g) := lh (fun g hg => (hw1 g hg).imp_right (fun e => by rw [e]; simp; omega)); have hq1c := Q1.out.cell; have hq1f := Q1.out.frozen); clear hr1 ho1 hw1)
 have Q2 : Hid (Blk (w1.setCell ⟨P, 1, none⟩ (.slice s1.A s1.n s1.c)) P 85 #[.func (.func F) #[] cs, .slice s1.A s1.n s1.c, .bool true, .bool false, .int .i64 0, .int .u32 0]) := lh (by have h_ := (Q1.out).set_ 1 (.slice s1.A s1.n s1.c); simpa only [sA, sZ, sC] using h_)
 have X2 := lh (X1.out.far (p := ⟨P, 1, none⟩) (show ¬ w.heap.size = P by omega) (.slice s1.A s1.n s1.c))
 have L2 : Hid (Kept (w1.setCell ⟨P, 1, none⟩ (.slice s1.A s1.n s1.c)) l) := lh (fun x hx => (L1.out x hx).far (p := ⟨P, 1, none⟩) (Blk.ne (L1.out x hx) Q1.out (HSF.out x hx).1) (.slice s1.A s1.n s1.c))
 have R2 := lh (R1.out.kept (w' := w1.setCell ⟨P, 1, none⟩ (.slice s1.A s1.n s1.c)) (fun g hg => Below.heap_setCell _ _ _ _ (R1.out.ne Q1.out (by decide) g hg)))
 have O2 := lh (O1.out.set_ ⟨P, 1, none⟩ (.inl (.inl rfl)) (.slice s1.A s1.n s1.c))
 generalize w1.setCell ⟨P, 1, none⟩ (.slice s1.A s1.n s1.c) = V at Q2 X2 L2 R2 O2 ⊢
 have R3 : Hid (Row V base 176 2 s1 (fs ++ [(was, dn)]).length (flatF (fs ++ [(was, dn)]))) := lh (by rw [List.length_append, flatF_snoc]; exact R2.out)
 clear hq1c hq1f hcq hfq R1 Q1 X1 L1
 refine (throughg_ask V base P F cs l p s1 (fs ++ [(was, dn)]) a true false 0 0 HCS.out HME.out Q2.out R3.out L2.out (by rw [List.length_append]; simp only [List.length_cons, List.length_nil]; omega) HG.out HPF.out).mono ?_
 rintro e w3 ⟨rfl, hq3, ho3⟩
 have hzX := X2.out.lt
 have Q3 := lh hq3
 have X3 := lh (X2.out.only ho3 (by omega))
 have R4 := lh (R3.out.only ho3 (fun g hg => R3.out.ne Q2.out (by decide) g hg))
 have NX1 : Hid (∀ g, bl s1 g -> ¬ g = w.heap.size) := lh (fun g hg => R4.out.ne X3.out (by decide) g hg)
 have NQ1 : Hid (∀ g, bl s1 g -> ¬ g = P) := lh (fun g hg => R4.out.ne Q3.out (by decide) g hg)
 have O3 : Hid (Only (fun g => g = P \/ bl s g) w w3) := lh (O2.out.next ho3 (fun k hk hg => .inl hg))
 have hxq := Q3.out.cell
 have hxqf := Q3.out.frozen
 have hxx := X3.out.cell
 have hxxf := X3.out.frozen
 have n1 : ¬ P = w.heap.size := by omega
 have n2 : ¬ w.heap.size = P := by omega
 clear hq3 ho3
 go_wp2
 go_region
 have XX : Hid (Blk ((((((((((((w3.setCell ⟨w.heap.size, 0, none⟩ (.int .i64 a.d)).setCell ⟨w.heap.size, 1, none⟩ (.int .i64 a.ar)).setCell ⟨w.heap.size, 2, none⟩ (.int .i64 a.at_)).setCell ⟨w.heap.size, 3, none⟩ (.int .u64 a.old)).setCell ⟨w.heap.size, 4, none⟩ (.int .u64 a.new)).setCell ⟨P, 2, none⟩ (.bool true)).setCell ⟨w.heap.size, 0, none⟩ (.int .i64 a.d)).setCell ⟨w.heap.size, 1, none⟩ (.int .i64 a.ar)).setCell ⟨w.heap.size, 2, none⟩ (.int .i64 a.at_)).setCell ⟨w.heap.size, 3, none⟩ (.int .u64 a.old)).setCell ⟨w.heap.size, 4, none⟩ (.int .u64 a.new)).drew) w.heap.size 66 #[.int .i64 a.d, .int .i64 a.ar, .int .i64 a.at_, .int .u64 a.old, .int .u64 a.new]) := lh (by have h_ := ((((((((((((X3.out).set_ 0 (.int .i64 a.d)).set_ 1 (.int .i64 a.ar)).set_ 2 (.int .i64 a.at_)).set_ 3 (.int .u64 a.old)).set_ 4 (.int .u64 a.new)).far (p := ⟨P, 2, none⟩) (show ¬ w.heap.size = P by omega) (.bool true)).set_ 0 (.int .i64 a.d)).set_ 1 (.int .i64 a.ar)).set_ 2 (.int .i64 a.at_)).set_ 3 (.int .u64 a.old)).set_ 4 (.int .u64 a.new)).drew; simpa only [sA, sZ, sC] using h_)
 have QQ : Hid (Blk ((((((((((((w3.setCell ⟨w.heap.size, 0, none⟩ (.int .i64 a.d)).setCell ⟨w.heap.size, 1, none⟩ (.int .i64 a.ar)).setCell ⟨w.heap.size, 2, none⟩ (.int .i64 a.at_)).setCell ⟨w.heap.size, 3, none⟩ (.int .u64 a.old)).setCell ⟨w.heap.size, 4, none⟩ (.int .u64 a.new)).setCell ⟨P, 2, none⟩ (.bool true)).setCell ⟨w.heap.size, 0, none⟩ (.int .i64 a.d)).setCell ⟨w.heap.size, 1, none⟩ (.int .i64 a.ar)).setCell ⟨w.heap.size, 2, none⟩ (.int .i64 a.at_)).setCell ⟨w.heap.size, 3, none⟩ (.int .u64 a.old)).setCell ⟨w.heap.size, 4, none⟩ (.int .u64 a.new)).drew) P 85 #[.func (.func F) #[] cs, .slice s1.A s1.n s1.c, .bool true, .bool false, .int .i64 0, .int .u32 0]) := lh (by have h_ := ((((((((((((Q3.out).far (p := ⟨w.heap.size, 0, none⟩) (show ¬ P = w.heap.size by omega) (.int .i64 a.d)).far (p := ⟨w.heap.size, 1, none⟩) (show ¬ P = w.heap.size by omega) (.int .i64 a.ar)).far (p := ⟨w.heap.size, 2, none⟩) (show ¬ P = w.heap.size by omega) (.int .i64 a.at_)).far (p := ⟨w.heap.size, 3, none⟩) (show ¬ P = w.heap.size by omega) (.int .u64 a.old)).far (p := ⟨w.heap.size, 4, none⟩) (show ¬ P = w.heap.size by omega) (.int .u64 a.new)).set_ 2 (.bool true)).far (p := ⟨w.heap.size, 0, none⟩) (show ¬ P = w.heap.size by omega) (.int .i64 a.d)).far (p := ⟨w.heap.size, 1, none⟩) (show ¬ P = w.heap.size by omega) (.int .i64 a.ar)).far (p := ⟨w.heap.size, 2, none⟩) (show ¬ P = w.heap.size by omega) (.int .i64 a.at_)).far (p := ⟨w.heap.size, 3, none⟩) (show ¬ P = w.heap.size by omega) (.int .u64 a.old)).far (p := ⟨w.heap.size, 4, none⟩) (show ¬ P = w.heap.size by omega) (.int .u64 a.new)).drew; simpa only [sA, sZ, sC] using h_)
 have OO : Hid (Only (fun g => g = P \/ bl s g) w ((((((((((((w3.setCell ⟨w.heap.size, 0, none⟩ (.int .i64 a.d)).setCell ⟨w.heap.size, 1, none⟩ (.int .i64 a.ar)).setCell ⟨w.heap.size, 2, none⟩ (.int .i64 a.at_)).setCell ⟨w.heap.size, 3, none⟩ (.int .u64 a.old)).setCell ⟨w.heap.size, 4, none⟩ (.int .u64 a.new)).setCell ⟨P, 2, none⟩ (.bool true)).setCell ⟨w.heap.size, 0, none⟩ (.int .i64 a.d)).setCell ⟨w.heap.size, 1, none⟩ (.int .i64 a.ar)).setCell ⟨w.heap.size, 2, none⟩ (.int .i64 a.at_)).setCell ⟨w.heap.size, 3, none⟩ (.int .u64 a.old)).setCell ⟨w.heap.size, 4, none⟩ (.int .u64 a.new)).drew)) := lh (((((((((((((O3.out).set_ ⟨w.heap.size, 0, none⟩ (.inr (Nat.le_refl _)) _).set_ ⟨w.heap.size, 1, none⟩ (.inr (Nat.le_refl _)) _).set_ ⟨w.heap.size, 2, none⟩ (.inr (Nat.le_refl _)) _).set_ ⟨w.heap.size, 3, none⟩ (.inr (Nat.le_refl _)) _).set_ ⟨w.heap.size, 4, none⟩ (.inr (Nat.le_refl _)) _).set_ ⟨P, 2, none⟩ (.inl (.inl rfl)) _).set_ ⟨w.heap.size, 0, none⟩ (.inr (Nat.le_refl _)) _).set_ ⟨w.heap.size, 1, none⟩ (.inr (Nat.le_refl _)) _).set_ ⟨w.heap.size, 2, none⟩ (.inr (Nat.le_refl _)) _).set_ ⟨w.heap.size, 3, none⟩ (.inr (Nat.le_refl _)) _).set_ ⟨w.heap.size, 4, none⟩ (.inr (Nat.le_refl _)) _).drew)
 have O4 : Hid (Only (fun g => g = P \/ g = w.heap.size) w3 ((((((((((((w3.setCell ⟨w.heap.size, 0, none⟩ (.int .i64 a.d)).setCell ⟨w.heap.size, 1, none⟩ (.int .i64 a.ar)).setCell ⟨w.heap.size, 2, none⟩ (.int .i64 a.at_)).setCell ⟨w.heap.size, 3, none⟩ (.int .u64 a.old)).setCell ⟨w.heap.size, 4, none⟩ (.int .u64 a.new)).setCell ⟨P, 2, none⟩ (.bool true)).setCell ⟨w.heap.size, 0, none⟩ (.int .i64 a.d)).setCell ⟨w.heap.size, 1, none⟩ (.int .i64 a.ar)).setCell ⟨w.heap.size, 2, none⟩ (.int .i64 a.at_)).setCell ⟨w.heap.size, 3, none⟩ (.int .u64 a.old)).setCell ⟨w.heap.size, 4, none⟩ (.int .u64 a.new)).drew)) := lh ((((((((((((((Only.refl (fun g => g = P \/ g = w.heap.size) w3)).set_ ⟨w.heap.size, 0, none⟩ (.inl (.inr rfl)) _).set_ ⟨w.heap.size, 1, none⟩ (.inl (.inr rfl)) _).set_ ⟨w.heap.size, 2, none⟩ (.inl (.inr rfl)) _).set_ ⟨w.heap.size, 3, none⟩ (.inl (.inr rfl)) _).set_ ⟨w.heap.size, 4, none⟩ (.inl (.inr rfl)) _).set_ ⟨P, 2, none⟩ (.inl (.inl rfl)) _).set_ ⟨w.heap.size, 0, none⟩ (.inl (.inr rfl)) _).set_ ⟨w.heap.size, 1, none⟩ (.inl (.inr rfl)) _).set_ ⟨w.heap.size, 2, none⟩ (.inl (.inr rfl)) _).set_ ⟨w.heap.size, 3, none⟩ (.inl (.inr rfl)) _).set_ ⟨w.heap.size, 4, none⟩ (.inl (.inr rfl)) _).drew)
 have RR := lh (R4.out.only O4.out (fun g hg e => by
   rcases e with e | e
   · exact NQ1.out g hg e
   · exact NX1.out g hg e))
 generalize ((((((((((((w3.setCell ⟨w.heap.size, 0, none⟩ (.int .i64 a.d)).setCell ⟨w.heap.size, 1, none⟩ (.int .i64 a.ar)).setCell ⟨w.heap.size, 2, none⟩ (.int .i64 a.at_)).setCell ⟨w.heap.size, 3, none⟩ (.int .u64 a.old)).setCell ⟨w.heap.size, 4, none⟩ (.int .u64 a.new)).setCell ⟨P, 2, none⟩ (.bool true)).setCell ⟨w.heap.size, 0, none⟩ (.int .i64 a.d)).setCell ⟨w.heap.size, 1, none⟩ (.int .i64 a.ar)).setCell ⟨w.heap.size, 2, none⟩ (.int .i64 a.at_)).setCell ⟨w.heap.size, 3, none⟩ (.int .u64 a.old)).setCell ⟨w.heap.size, 4, none⟩ (.int .u64 a.new)).drew) = W5 at XX QQ OO RR ⊢
 have hx5 := XX.out.cell
 clear hxq hxqf hxx hxxf O4
 go_wp2
 refine bodyPost_ret (v := .tuple #[.agg #[.int .i64 a.d, .int .i64 a.ar, .int .i64 a.at_, .int .u64 a.old, .int .u64 a.new], .bool true]) (by simp [results, Tryz.results116, go_sem, hx5]) rfl ⟨s1, rfl, QQ.out, RR.out, OO.out, HW1.out⟩

set_option maxHeartbeats 4000000 in
theorem nextg_fin (w : World) (base P F : Nat) (cs : Array Value) (l : List Cap1) (p : Pl) (s : Sl) (fs : List (Int × Bool)) (cd2 ou2 : Int) (was : Int) (dn : Bool)
   (hcs : cs = (l.map Cap1.ptr).toArray) (hme : Meets F l p) (hq : Blk w P 85 #[.func (.func F) #[] cs, .slice s.A s.n s.c, .bool true, .bool false, .int .i64 0, .int .u32 0]) (hr : Row w base 176 2 s fs.length (flatF fs)) (hk : Kept w l) (hsf : SafeL l) (hn : fs.length < 100000) (hg : Going p (fs ++ [(was, dn)])) (hb : base <= w.heap.size) (hpf : p (fs ++ [(was, dn)]) = .fin cd2 ou2) :
   Calls Tryz.prog 116 #[.pointer (some ⟨P, 0, none⟩), .int .u64 was, .bool dn] w fun e w' => e = .returned (.tuple #[.agg #[.int .i64 0, .int .i64 0, .int .i64 0, .int .u64 0, .int .u64 0], .bool false]) /\ Over w' P cd2 ou2 /\ Only (fun g => g = P \/ bl s g) w w' := by
 have hcq := hq.cell
 have hfq := hq.frozen
 have hzq := hq.lt
 have HQ := lh hq
 clear hq
 obtain ⟨i0, hi0, hz0, hz1, hz2⟩ := info_parts finding_cell
 have HR := lh hr
 have HKL := lh hk
 have HSF := lh hsf
 have HME := lh hme
 have HCS := lh hcs
 have HPF := lh hpf
 have HG := lh hg
 have HB := lh hb
 clear hr hk hsf hme hcs hpf hg hb
 have BX : Hid (Blk ((w.alloc (.cells #[.int .i64 0, .int .i64 0, .int .i64 0, .int .u64 0, .int .u64 0] 66)).alloc (.cells #[.int .u64 was, .bool dn] 176)) w.heap.size 66 #[.int .i64 0, .int .i64 0, .int .i64 0, .int .u64 0, .int .u64 0]) := lh ((Blk.new _ _ _).alloc _)
 have BF : Hid (Blk ((w.alloc (.cells #[.int .i64 0, .int .i64 0, .int .i64 0, .int .u64 0, .int .u64 0] 66)).alloc (.cells #[.int .u64 was, .bool dn] 176)) (w.heap.size + 1) 176 #[.int .u64 was, .bool dn]) := lh (blk_at (by simp))
 have BQ := lh ((HQ.out.alloc (.cells #[.int .i64 0, .int .i64 0, .int .i64 0, .int .u64 0, .int .u64 0] 66)).alloc (.cells #[.int .u64 was, .bool dn] 176))
 have BR := lh ((HR.out.alloc (.cells #[.int .i64 0, .int .i64 0, .int .i64 0, .int .u64 0, .int .u64 0] 66)).alloc (.cells #[.int .u64 was, .bool dn] 176))
 have BL := lh ((HKL.out.alloc (.cells #[.int .i64 0, .int .i64 0, .int .i64 0, .int .u64 0, .int .u64 0] 66)).alloc (.cells #[.int .u64 was, .bool dn] 176))
 have OV : Hid (Only (fun g => g = P \/ bl s g) w ((w.alloc (.cells #[.int .i64 0, .int .i64 0, .int .i64 0, .int .u64 0, .int .u64 0] 66)).alloc (.cells #[.int .u64 was, .bool dn] 176))) := lh (((Only.refl _ _).alloc _).alloc _)
 have hnews : ∀ (j : Nat) (u : Value), ([.int .u64 was, .bool dn] : List Value)[j]? = some u -> (((w.alloc (.cells #[.int .i64 0, .int .i64 0, .int .i64 0, .int .u64 0, .int .u64 0] 66)).alloc (.cells #[.int .u64 was, .bool dn] 176))).cell? ⟨w.heap.size + 1, j, none⟩ = some u := fun j u hj => (BF.out.cell j).trans (by simpa using hj)
 have HNW := lh hnews
 have NX_ : Hid (∀ g, bl s g -> ¬ g = w.heap.size) := lh (fun g hg e => by have := (HR.out.lt hg).2; omega)
 have NQ : Hid (∀ g, bl s g -> ¬ g = P) := lh (fun g hg => HR.out.ne HQ.out (by decide) g hg)
 have hq1 : P < w.heap.size + 1 := by omega
 clear hnews
 go_enter Tryz.func116, Tryz.ntmps116
 go_wp2_with (at_builtin; refine wpList_app2p rfl _ _ 83 rfl base 176 i0 _ 2 16 Tryz.underlying83 hi0 hz0 hz1 hz2 rfl (by decide) s fs.length (flatF fs) rfl BR.out (w.heap.size + 1) [.int .u64 was, .bool dn] rfl rfl HNW.out (by simp [Value.oneCell']) (by omega) (by decide) (Nat.le_trans HB.out (by simp; omega)) ?_; intro s1 w1 hr1 ho1 hw1; go_must (have R1 := lh hr1; have Q1 := lh (BQ.out.only ho1 (fun hb => NQ.out P hb rfl)); have X1 := lh (BX.out.only ho1 (fun hb => NX_.out _ hb rfl)); have L1 := lh (BL.out.only ho1 (fun x hx hb => BR.out.ne (BL.out x hx) (Ne.symm (HSF.out x hx).2.1) _ hb rfl)); have O1 : Hid (Only (fun g => g = P \/ bl s g) w w1) := lh (OV.out.next ho1 (fun k hk hb => .inr hb)); have HW1 : Hid (∀ g, bl s1 g -> bl s g \/ w.heap.size <= g) := lh (fun g hg => (hw1 g hg).imp_right (fun e => by rw [e]; simp; omega)); have hq1c := Q1.out.cell; have hq1f := Q1.out.frozen); clear hr1 ho1 hw1)
 have Q2 : Hid (Blk (w1.setCell ⟨P, 1, none⟩ (.slice s1.A s1.n s1.c)) P 85 #[.func (.func F) #[] cs, .slice s1.A s1.n s1.c, .bool true, .bool false, .int .i64 0, .int .u32 0]) := lh (by have h_ := (Q1.out).set_ 1 (.slice s1.A s1.n s1.c); simpa only [sA, sZ, sC] using h_)
 have X2 := lh (X1.out.far (p := ⟨P, 1, none⟩) (show ¬ w.heap.size = P by omega) (.slice s1.A s1.n s1.c))
 have L2 : Hid (Kept (w1.setCell ⟨P, 1, none⟩ (.slice s1.A s1.n s1.c)) l) := lh (fun x hx => (L1.out x hx).far (p := ⟨P, 1, none⟩) (Blk.ne (L1.out x hx) Q1.out (HSF.out x hx).1) (.slice s1.A s1.n s1.c))
 have R2 := lh (R1.out.kept (w' := w1.setCell ⟨P, 1, none⟩ (.slice s1.A s1.n s1.c)) (fun g hg => Below.heap_setCell _ _ _ _ (R1.out.ne Q1.out (by decide) g hg)))
 have O2 := lh (O1.out.set_ ⟨P, 1, none⟩ (.inl (.inl rfl)) (.slice s1.A s1.n s1.c))
 generalize w1.setCell ⟨P, 1, none⟩ (.slice s1.A s1.n s1.c) = V at Q2 X2 L2 R2 O2 ⊢
 have R3 : Hid (Row V base 176 2 s1 (fs ++ [(was, dn)]).length (flatF (fs ++ [(was, dn)]))) := lh (by rw [List.length_append, flatF_snoc]; exact R2.out)
 clear hq1c hq1f hcq hfq R1 Q1 X1 L1
 refine (throughg_fin V base P F cs l p s1 (fs ++ [(was, dn)]) true false 0 0 cd2 ou2 HCS.out HME.out Q2.out R3.out L2.out (by rw [List.length_append]; simp only [List.length_cons, List.length_nil]; omega) HG.out HPF.out).mono ?_
 rintro e w3 ⟨rfl, hq3, ho3⟩
 have hzX := X2.out.lt
 have Q3 := lh hq3
 have X3 := lh (X2.out.only ho3 (by omega))
 have O3 : Hid (Only (fun g => g = P \/ bl s g) w w3) := lh (O2.out.next ho3 (fun k hk hg => .inl hg))
 have hxq := Q3.out.cell
 have hxqf := Q3.out.frozen
 have hxx := X3.out.cell
 have hxxf := X3.out.frozen
 have n1 : ¬ P = w.heap.size := by omega
 have n2 : ¬ w.heap.size = P := by omega
 clear hq3 ho3
 go_wp2_with fail
 have X4 : Hid (Blk ((((((w3.setCell ⟨w.heap.size, 0, none⟩ (.int .i64 0)).setCell ⟨w.heap.size, 1, none⟩ (.int .i64 0)).setCell ⟨w.heap.size, 2, none⟩ (.int .i64 0)).setCell ⟨w.heap.size, 3, none⟩ (.int .u64 0)).setCell ⟨w.heap.size, 4, none⟩ (.int .u64 0)).setCell ⟨P, 2, none⟩ (.bool false)) w.heap.size 66 #[.int .i64 0, .int .i64 0, .int .i64 0, .int .u64 0, .int .u64 0]) := lh (by have h_ := ((((((X3.out).set_ 0 (.int .i64 0)).set_ 1 (.int .i64 0)).set_ 2 (.int .i64 0)).set_ 3 (.int .u64 0)).set_ 4 (.int .u64 0)).far (p := ⟨P, 2, none⟩) (show ¬ w.heap.size = P by omega) (.bool false); simpa only [sA, sZ, sC] using h_)
 have Q4 : Hid (Blk ((((((w3.setCell ⟨w.heap.size, 0, none⟩ (.int .i64 0)).setCell ⟨w.heap.size, 1, none⟩ (.int .i64 0)).setCell ⟨w.heap.size, 2, none⟩ (.int .i64 0)).setCell ⟨w.heap.size, 3, none⟩ (.int .u64 0)).setCell ⟨w.heap.size, 4, none⟩ (.int .u64 0)).setCell ⟨P, 2, none⟩ (.bool false)) P 85 #[.func (.func F) #[] cs, (.slice s1.A s1.n s1.c), .bool false, .bool false, .int .i64 cd2, .int .u32 ou2]) := lh (by have h_ := ((((((Q3.out).far (p := ⟨w.heap.size, 0, none⟩) (show ¬ P = w.heap.size by omega) (.int .i64 0)).far (p := ⟨w.heap.size, 1, none⟩) (show ¬ P = w.heap.size by omega) (.int .i64 0)).far (p := ⟨w.heap.size, 2, none⟩) (show ¬ P = w.heap.size by omega) (.int .i64 0)).far (p := ⟨w.heap.size, 3, none⟩) (show ¬ P = w.heap.size by omega) (.int .u64 0)).far (p := ⟨w.heap.size, 4, none⟩) (show ¬ P = w.heap.size by omega) (.int .u64 0)).set_ 2 (.bool false); simpa only [sA, sZ, sC] using h_)
 have O4 : Hid (Only (fun g => g = P \/ bl s g) w ((((((w3.setCell ⟨w.heap.size, 0, none⟩ (.int .i64 0)).setCell ⟨w.heap.size, 1, none⟩ (.int .i64 0)).setCell ⟨w.heap.size, 2, none⟩ (.int .i64 0)).setCell ⟨w.heap.size, 3, none⟩ (.int .u64 0)).setCell ⟨w.heap.size, 4, none⟩ (.int .u64 0)).setCell ⟨P, 2, none⟩ (.bool false))) := lh (((((((O3.out).set_ ⟨w.heap.size, 0, none⟩ (.inr (Nat.le_refl _)) _).set_ ⟨w.heap.size, 1, none⟩ (.inr (Nat.le_refl _)) _).set_ ⟨w.heap.size, 2, none⟩ (.inr (Nat.le_refl _)) _).set_ ⟨w.heap.size, 3, none⟩ (.inr (Nat.le_refl _)) _).set_ ⟨w.heap.size, 4, none⟩ (.inr (Nat.le_refl _)) _).set_ ⟨P, 2, none⟩ (.inl (.inl rfl)) _)
 generalize ((((((w3.setCell ⟨w.heap.size, 0, none⟩ (.int .i64 0)).setCell ⟨w.heap.size, 1, none⟩ (.int .i64 0)).setCell ⟨w.heap.size, 2, none⟩ (.int .i64 0)).setCell ⟨w.heap.size, 3, none⟩ (.int .u64 0)).setCell ⟨w.heap.size, 4, none⟩ (.int .u64 0)).setCell ⟨P, 2, none⟩ (.bool false)) = W4 at X4 Q4 O4 ⊢
 clear hxq hxqf hxx hxxf
 refine (end_c W4 P undef undef false false cd2 ou2 _ _ _ _ _ _ Q4.out).mono ?_
 rintro e w5 ⟨rfl, hq5, ho5⟩
 have Q5 := lh hq5
 have X5 := lh (X4.out.only ho5 (by omega))
 have O5 : Hid (Only (fun g => g = P \/ bl s g) w w5) := lh (O4.out.next ho5 (fun k hk hg => .inl hg))
 have hxq := Q5.out.cell
 have hxqf := Q5.out.frozen
 have hxx := X5.out.cell
 have hxxf := X5.out.frozen
 clear hq5 ho5
 go_wp2
 go_region
 have XX : Hid (Blk ((((((w5.setCell ⟨w.heap.size, 0, none⟩ (.int .i64 0)).setCell ⟨w.heap.size, 1, none⟩ (.int .i64 0)).setCell ⟨w.heap.size, 2, none⟩ (.int .i64 0)).setCell ⟨w.heap.size, 3, none⟩ (.int .u64 0)).setCell ⟨w.heap.size, 4, none⟩ (.int .u64 0)).drew) w.heap.size 66 #[.int .i64 0, .int .i64 0, .int .i64 0, .int .u64 0, .int .u64 0]) := lh (by have h_ := ((((((X5.out).set_ 0 (.int .i64 0)).set_ 1 (.int .i64 0)).set_ 2 (.int .i64 0)).set_ 3 (.int .u64 0)).set_ 4 (.int .u64 0)).drew; simpa only [sA, sZ, sC] using h_)
 have QQ : Hid (Over (((((((w5.setCell ⟨w.heap.size, 0, none⟩ (.int .i64 0)).setCell ⟨w.heap.size, 1, none⟩ (.int .i64 0)).setCell ⟨w.heap.size, 2, none⟩ (.int .i64 0)).setCell ⟨w.heap.size, 3, none⟩ (.int .u64 0)).setCell ⟨w.heap.size, 4, none⟩ (.int .u64 0)).drew)) P cd2 ou2) := lh (((((((Q5.out).far (p := ⟨w.heap.size, 0, none⟩) (show ¬ P = w.heap.size by omega) (.int .i64 0)).far (p := ⟨w.heap.size, 1, none⟩) (show ¬ P = w.heap.size by omega) (.int .i64 0)).far (p := ⟨w.heap.size, 2, none⟩) (show ¬ P = w.heap.size by omega) (.int .i64 0)).far (p := ⟨w.heap.size, 3, none⟩) (show ¬ P = w.heap.size by omega) (.int .u64 0)).far (p := ⟨w.heap.size, 4, none⟩) (show ¬ P = w.heap.size by omega) (.int .u64 0)).drew)
 have OO : Hid (Only (fun g => g = P \/ bl s g) w ((((((w5.setCell ⟨w.heap.size, 0, none⟩ (.int .i64 0)).setCell ⟨w.heap.size, 1, none⟩ (.int .i64 0)).setCell ⟨w.heap.size, 2, none⟩ (.int .i64 0)).setCell ⟨w.heap.size, 3, none⟩ (.int .u64 0)).setCell ⟨w.heap.size, 4, none⟩ (.int .u64 0)).drew)) := lh (((((((O5.out).set_ ⟨w.heap.size, 0, none⟩ (.inr (Nat.le_refl _)) _).set_ ⟨w.heap.size, 1, none⟩ (.inr (Nat.le_refl _)) _).set_ ⟨w.heap.size, 2, none⟩ (.inr (Nat.le_refl _)) _).set_ ⟨w.heap.size, 3, none⟩ (.inr (Nat.le_refl _)) _).set_ ⟨w.heap.size, 4, none⟩ (.inr (Nat.le_refl _)) _).drew)
 generalize ((((((w5.setCell ⟨w.heap.size, 0, none⟩ (.int .i64 0)).setCell ⟨w.heap.size, 1, none⟩ (.int .i64 0)).setCell ⟨w.heap.size, 2, none⟩ (.int .i64 0)).setCell ⟨w.heap.size, 3, none⟩ (.int .u64 0)).setCell ⟨w.heap.size, 4, none⟩ (.int .u64 0)).drew) = W6 at XX QQ OO ⊢
 have hx6 := XX.out.cell
 clear hxq hxqf hxx hxxf
 go_wp2
 refine bodyPost_ret (v := .tuple #[.agg #[.int .i64 0, .int .i64 0, .int .i64 0, .int .u64 0, .int .u64 0], .bool false]) (by simp [results, Tryz.results116, go_sem, hx6]) rfl ⟨rfl, QQ.out, OO.out⟩
end Go.Proofs.YtffppdcpiieapaaGreat.Procc
