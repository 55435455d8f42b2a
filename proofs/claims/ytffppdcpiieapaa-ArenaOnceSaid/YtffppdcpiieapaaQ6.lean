/- A thread's access is done, by contract, whatever its call is. -/
import Derived.Test.YtffppdcpiieapaaQ5
namespace Go.Proofs.Ytffppdcpiieapaa.Drivec
open Go.RowKit Go.Proofs.Ytffppdcpiieapaa.Memc Go.Proofs.Ytffppdcpiieapaa.Procc Go.Proofs.Ytffppdcpiieapaa.Storec
set_option linter.unusedVariables false
set_option maxRecDepth 100000

/-- a thread's cells where its next access is asked for -/
def askedc (ct : Array Value) (o : Nat) (a : Acc) : Array Value :=
  (((((ct.setIfInBounds (o + 3) (.int .i64 a.d)).setIfInBounds (o + 4) (.int .i64 a.ar)).setIfInBounds (o + 5) (.int .i64 a.at_)).setIfInBounds (o + 6) (.int .u64 a.old)).setIfInBounds (o + 7) (.int .u64 a.new)).setIfInBounds (o + 8) (.bool true)
/-- what doing a thread's access, not the last one of its call, comes to -/
def SteppedA (w : World) (B : Nat) (bs : Array Value) (gC gT o i P F base nS nK : Nat) (cs : Array Value) (l : List Cap1) (q : Sl) (fs : List (Int × Bool)) (ct : Array Value) (a a2 : Acc) (m : Memc.M) (th sS sK : Sl) (ys xs : List Value) (e : Ending) (w' : World) : Prop :=
  ∃ (r3 : R) (s1 q1 : Sl), e = .returned (.tuple #[]) ∧ Blk w' gC 102 #[.func (.func B) #[] bs, .slice th.A th.n th.c, .slice s1.A s1.n s1.c, .slice sK.A sK.n sK.c, .int .u64 r3.e, .int .u64 r3.f, .slice r3.L.A r3.L.n r3.L.c, .slice r3.P.A r3.P.n r3.P.c, .int .u64 r3.h, .int .u64 r3.t, .slice r3.K.A r3.K.n r3.K.c, .slice r3.X.A r3.X.n r3.X.c, .slice r3.S.A r3.S.n r3.S.c] ∧ Blk w' gT 104 (askedc ct o a2) ∧
    Row w' base 55 7 sK nK xs ∧
    Row w' base 59 8 s1 (nS + 1) (ys ++ [.int .i64 i, .int .i64 a.d, .int .i64 a.ar, .int .i64 a.at_, .int .u64 a.old, .int .u64 a.new, .int .u64 (acc m a).2.1, .bool (acc m a).2.2]) ∧ Endw w' base r3 (acc m a).1 ∧
    Blk w' P 126 #[.func (.func F) #[] cs, .slice q1.A q1.n q1.c, .bool true, .bool false, .int .i64 0, .int .u32 0] ∧ Row w' base 194 2 q1 (fs ++ [((acc m a).2.1, (acc m a).2.2)]).length (flatF (fs ++ [((acc m a).2.1, (acc m a).2.2)])) ∧ Kept w' l ∧ (∀ g, bl q1 g → bl q g ∨ w.heap.size ≤ g) ∧
    Only (fun g => (g = gT ∨ g = gC ∨ g = P) ∨ bl sS g ∨ bl sK g ∨ bl q g) w w'
/-- what doing a thread's access, the last one of its call, comes to -/
def SteppedF (w : World) (B : Nat) (bs : Array Value) (gC gT o i P base nS nK k : Nat) (q : Sl) (cd2 ou2 : Int) (ct : Array Value) (a : Acc) (m : Memc.M) (th sS sK : Sl) (ys xs : List Value) (e : Ending) (w' : World) : Prop :=
  ∃ (r3 : R) (s1 : Sl), e = .returned (.tuple #[]) ∧ Blk w' gC 102 #[.func (.func B) #[] bs, .slice th.A th.n th.c, .slice s1.A s1.n s1.c, .slice sK.A sK.n sK.c, .int .u64 r3.e, .int .u64 r3.f, .slice r3.L.A r3.L.n r3.L.c, .slice r3.P.A r3.P.n r3.P.c, .int .u64 r3.h, .int .u64 r3.t, .slice r3.K.A r3.K.n r3.K.c, .slice r3.X.A r3.X.n r3.X.c, .slice r3.S.A r3.S.n r3.S.c] ∧ Blk w' gT 104 (ended ct o) ∧
    Row w' base 55 7 sK nK (((xs.set (k * 7 + 4) (.int .i64 (s1.n - 1))).set (k * 7 + 5) (.int .i64 cd2)).set (k * 7 + 6) (.int .u32 ou2)) ∧
    Row w' base 59 8 s1 (nS + 1) (ys ++ [.int .i64 i, .int .i64 a.d, .int .i64 a.ar, .int .i64 a.at_, .int .u64 a.old, .int .u64 a.new, .int .u64 (acc m a).2.1, .bool (acc m a).2.2]) ∧ Endw w' base r3 (acc m a).1 ∧
    Only (fun g => (g = gT ∨ g = gC ∨ g = P) ∨ bl sS g ∨ bl sK g ∨ bl q g) w w'

set_option maxHeartbeats 8000000 in
theorem stepg_ask (w : World) (B : Nat) (bs : Array Value) (gC gT o i P F base nS nK k : Nat) (cs : Array Value) (l : List Cap1) (p : Pl) (q : Sl) (fs : List (Int × Bool)) (a2 : Acc) (ct : Array Value) (a : Acc) (r : R) (m : Memc.M) (th sS sK : Sl) (ys xs : List Value) (x4 x5 x6 : Value)
    (hC : Blk w gC 102 #[.func (.func B) #[] bs, .slice th.A th.n th.c, .slice sS.A sS.n sS.c, .slice sK.A sK.n sK.c, .int .u64 r.e, .int .u64 r.f, .slice r.L.A r.L.n r.L.c, .slice r.P.A r.P.n r.P.c, .int .u64 r.h, .int .u64 r.t, .slice r.K.A r.K.n r.K.c, .slice r.X.A r.X.n r.X.c, .slice r.S.A r.S.n r.S.c]) (hT : Blk w gT 104 ct)
    (e1 : ct[o + 1]? = some (.iface 123 (.pointer (some ⟨P, 0, none⟩)))) (e2 : ct[o + 2]? = some (.int .i64 k))
    (e3 : ct[o + 3]? = some (.int .i64 a.d)) (e4 : ct[o + 4]? = some (.int .i64 a.ar)) (e5 : ct[o + 5]? = some (.int .i64 a.at_)) (e6 : ct[o + 6]? = some (.int .u64 a.old)) (e7 : ct[o + 7]? = some (.int .u64 a.new)) (e8 : ct[o + 8]? = some (.bool true))
    (hE : Endw w base r m) (hfew : ∀ ar, (m.area ar).length ≤ 1000000) (ha : a.ok) (hS : Row w base 59 8 sS nS ys) (hK : Row w base 55 7 sK nK xs) (hnS : nS < 100000) (hnK : nK < 1000000)
    (hk : k < nK) (hx4 : xs[k * 7 + 4]? = some x4) (hx5 : xs[k * 7 + 5]? = some x5) (hx6 : xs[k * 7 + 6]? = some x6) (hcs : cs = (l.map Cap1.ptr).toArray) (hme : Meets F l p) (hQ : Blk w P 126 #[.func (.func F) #[] cs, .slice q.A q.n q.c, .bool true, .bool false, .int .i64 0, .int .u32 0]) (hF : Row w base 194 2 q fs.length (flatF fs)) (hL : Kept w l) (hsf : SafeL l) (hfn : fs.length < 100000) (hg : Going p fs) (hp0 : p fs = .ask a) (hnx : p (fs ++ [((acc m a).2.1, (acc m a).2.2)]) = .ask a2) (hbase : base ≤ w.heap.size) :
    Calls Try.prog 88 #[.pointer (some ⟨gC, 0, none⟩), .pointer (some ⟨gT, o, none⟩), .int .i64 i] w (SteppedA w B bs gC gT o i P F base nS nK cs l q fs ct a a2 m th sS sK ys xs) := by
  have hCX : ¬ gC = w.heap.size := by have := hC.lt; omega
  have hTX : ¬ gT = w.heap.size := by have := hT.lt; omega
  have hXC : ¬ w.heap.size = gC := fun e => hCX e.symm
  have hXT : ¬ w.heap.size = gT := fun e => hTX e.symm
  have hTC : ¬ gT = gC := Blk.ne hT hC (by decide)
  have hCT : ¬ gC = gT := fun e => hTC e.symm
  have hPC : ¬ P = gC := Blk.ne hQ hC (by decide)
  have hPT : ¬ P = gT := Blk.ne hQ hT (by decide)
  have HFC := Lib.hid (Row.ne hF hC (by decide))
  have HFT := Lib.hid (Row.ne hF hT (by decide))
  have HLC : Hid (∀ x ∈ l, ¬ x.g = gC) := Lib.hid (fun x hx => Blk.ne (hL x hx) hC (hsf x hx).2.2.1)
  have HLT : Hid (∀ x ∈ l, ¬ x.g = gT) := Lib.hid (fun x hx => Blk.ne (hL x hx) hT (hsf x hx).2.2.2.1)
  have HLX : Hid (∀ x ∈ l, ¬ x.g = w.heap.size) := Lib.hid (fun x hx e => by have := (hL x hx).lt; omega)
  have HFX : Hid (∀ g, bl q g → g ≠ w.heap.size) := Lib.hid (fun g hg e => by have := (hF.lt hg).2; omega)
  have hPX : ¬ P = w.heap.size := by have := hQ.lt; omega
  have hct := (hT.cell (o + 3)).trans e3
  have hct4 := (hT.cell (o + 4)).trans e4
  have hct5 := (hT.cell (o + 5)).trans e5
  have hct6 := (hT.cell (o + 6)).trans e6
  have hct7 := (hT.cell (o + 7)).trans e7
  have hzT := hT.lt
  have HE1 := Lib.hid e1
  have HE2 := Lib.hid e2
  have HE3 := Lib.hid e3
  have HE4 := Lib.hid e4
  have HE5 := Lib.hid e5
  have HE6 := Lib.hid e6
  have HE7 := Lib.hid e7
  have HE8 := Lib.hid e8
  have HC := Lib.hid hC
  have HT := Lib.hid hT
  have HEW := Lib.hid hE
  have HRS := Lib.hid hS
  have HRK := Lib.hid hK
  have HQ := Lib.hid hQ
  have HFR := Lib.hid hF
  have HLK := Lib.hid hL
  have HSF := Lib.hid hsf
  have HME := Lib.hid hme
  have HCS := Lib.hid hcs
  have HFN := Lib.hid hfn
  have HG2 := Lib.hid (hg.snoc hp0 ((acc m a).2.1, (acc m a).2.2) (acc_was m hE.2.1 a))
  have HNX := Lib.hid hnx
  have FEW := Lib.hid hfew
  have HA := Lib.hid ha
  have HX4 := Lib.hid hx4
  have HX5 := Lib.hid hx5
  have HX6 := Lib.hid hx6
  obtain ⟨wv, hwv⟩ : ∃ x, (acc m a).2.1 = x := ⟨_, rfl⟩
  obtain ⟨dv, hdv⟩ : ∃ x, (acc m a).2.2 = x := ⟨_, rfl⟩
  have EW := Lib.hid hwv
  have ED := Lib.hid hdv
  rw [hwv, hdv] at HNX HG2
  clear e1 e2 e3 e4 e5 e6 e7 e8 hC hT hE hS hK hQ hF hL hsf hme hcs hfn hg hp0 hnx hfew ha hx4 hx5 hx6 hwv hdv
  go_enter Try.func88, Try.ntmps88
  go_wp2_with fail
  have C1 := Lib.hid (HC.out.alloc (.cells #[.int .i64 i, .int .i64 a.d, .int .i64 a.ar, .int .i64 a.at_, .int .u64 a.old, .int .u64 a.new, .int .u64 0, .bool false] 59)).drew
  have T1 := Lib.hid (HT.out.alloc (.cells #[.int .i64 i, .int .i64 a.d, .int .i64 a.ar, .int .i64 a.at_, .int .u64 a.old, .int .u64 a.new, .int .u64 0, .bool false] 59)).drew
  have X1 : Hid (Blk (w.alloc (.cells #[.int .i64 i, .int .i64 a.d, .int .i64 a.ar, .int .i64 a.at_, .int .u64 a.old, .int .u64 a.new, .int .u64 0, .bool false] 59)).drew w.heap.size 59 #[.int .i64 i, .int .i64 a.d, .int .i64 a.ar, .int .i64 a.at_, .int .u64 a.old, .int .u64 a.new, .int .u64 0, .bool false]) := Lib.hid (Blk.new _ _ _).drew
  have K1 : Hid (Row (w.alloc (.cells #[.int .i64 i, .int .i64 a.d, .int .i64 a.ar, .int .i64 a.at_, .int .u64 a.old, .int .u64 a.new, .int .u64 0, .bool false] 59)).drew base 55 7 sK nK xs) := Lib.hid (HRK.out.alloc (.cells #[.int .i64 i, .int .i64 a.d, .int .i64 a.ar, .int .i64 a.at_, .int .u64 a.old, .int .u64 a.new, .int .u64 0, .bool false] 59)).drew
  have R1 : Hid (Row (w.alloc (.cells #[.int .i64 i, .int .i64 a.d, .int .i64 a.ar, .int .i64 a.at_, .int .u64 a.old, .int .u64 a.new, .int .u64 0, .bool false] 59)).drew base 59 8 sS nS ys) := Lib.hid (HRS.out.alloc (.cells #[.int .i64 i, .int .i64 a.d, .int .i64 a.ar, .int .i64 a.at_, .int .u64 a.old, .int .u64 a.new, .int .u64 0, .bool false] 59)).drew
  have Q1 : Hid (Blk (w.alloc (.cells #[.int .i64 i, .int .i64 a.d, .int .i64 a.ar, .int .i64 a.at_, .int .u64 a.old, .int .u64 a.new, .int .u64 0, .bool false] 59)).drew P 126 #[.func (.func F) #[] cs, .slice q.A q.n q.c, .bool true, .bool false, .int .i64 0, .int .u32 0]) := Lib.hid (HQ.out.alloc (.cells #[.int .i64 i, .int .i64 a.d, .int .i64 a.ar, .int .i64 a.at_, .int .u64 a.old, .int .u64 a.new, .int .u64 0, .bool false] 59)).drew
  have F1 : Hid (Row (w.alloc (.cells #[.int .i64 i, .int .i64 a.d, .int .i64 a.ar, .int .i64 a.at_, .int .u64 a.old, .int .u64 a.new, .int .u64 0, .bool false] 59)).drew base 194 2 q fs.length (flatF fs)) := Lib.hid (HFR.out.alloc (.cells #[.int .i64 i, .int .i64 a.d, .int .i64 a.ar, .int .i64 a.at_, .int .u64 a.old, .int .u64 a.new, .int .u64 0, .bool false] 59)).drew
  have L1 : Hid (Kept (w.alloc (.cells #[.int .i64 i, .int .i64 a.d, .int .i64 a.ar, .int .i64 a.at_, .int .u64 a.old, .int .u64 a.new, .int .u64 0, .bool false] 59)).drew l) := Lib.hid (fun x hx => ((HLK.out x hx).alloc (.cells #[.int .i64 i, .int .i64 a.d, .int .i64 a.ar, .int .i64 a.at_, .int .u64 a.old, .int .u64 a.new, .int .u64 0, .bool false] 59)).drew)
  have E1 : Hid (Endw (w.alloc (.cells #[.int .i64 i, .int .i64 a.d, .int .i64 a.ar, .int .i64 a.at_, .int .u64 a.old, .int .u64 a.new, .int .u64 0, .bool false] 59)).drew base r m) := Lib.hid (HEW.out.alloc (.cells #[.int .i64 i, .int .i64 a.d, .int .i64 a.ar, .int .i64 a.at_, .int .u64 a.old, .int .u64 a.new, .int .u64 0, .bool false] 59)).drew
  have O1 : Hid (Only (fun g => (g = gT ∨ g = gC ∨ g = P) ∨ bl sS g ∨ bl sK g ∨ bl q g) w (w.alloc (.cells #[.int .i64 i, .int .i64 a.d, .int .i64 a.ar, .int .i64 a.at_, .int .u64 a.old, .int .u64 a.new, .int .u64 0, .bool false] 59)).drew) := Lib.hid (((Only.refl _ _).alloc _).drew)
  have hbV : Hid (base ≤ (w.alloc (.cells #[.int .i64 i, .int .i64 a.d, .int .i64 a.ar, .int .i64 a.at_, .int .u64 a.old, .int .u64 a.new, .int .u64 0, .bool false] 59)).drew.heap.size) := Lib.hid (Nat.le_trans hbase (by simp))
  clear hct hct4 hct5 hct6 hct7
  have HKC := Lib.hid (Row.ne HRK.out HC.out (by decide))
  have HRC := Lib.hid (Row.ne HRS.out HC.out (by decide))
  have HKX := Lib.hid (Row.ne K1.out X1.out (by decide))
  have HRX : Hid (∀ g, bl sS g → g ≠ w.heap.size) := Lib.hid (fun g hg => by have := (HRS.out.lt hg).2; omega)
  generalize w.alloc (.cells #[.int .i64 i, .int .i64 a.d, .int .i64 a.ar, .int .i64 a.at_, .int .u64 a.old, .int .u64 a.new, .int .u64 0, .bool false] 59) = V at C1 T1 X1 K1 R1 Q1 F1 L1 E1 O1 hbV HKX ⊢
  refine Zreg.begin_ (S := (fun w' => (∀ j, w'.cell? ⟨gC, j, none⟩ = (#[.func (.func B) #[] bs, .slice th.A th.n th.c, .slice sS.A sS.n sS.c, .slice sK.A sK.n sK.c, .int .u64 r.e, .int .u64 r.f, .slice r.L.A r.L.n r.L.c, .slice r.P.A r.P.n r.P.c, .int .u64 r.h, .int .u64 r.t, .slice r.K.A r.K.n r.K.c, .slice r.X.A r.X.n r.X.c, .slice r.S.A r.S.n r.S.c] : Array Value)[j]?) ∧ w'.cell? ⟨gT, o + 3, none⟩ = some (.int .i64 a.d) ∧ w'.cell? ⟨gT, o + 4, none⟩ = some (.int .i64 a.ar) ∧ w'.cell? ⟨gT, o + 5, none⟩ = some (.int .i64 a.at_) ∧ w'.cell? ⟨gT, o + 6, none⟩ = some (.int .u64 a.old) ∧ w'.cell? ⟨gT, o + 7, none⟩ = some (.int .u64 a.new))) (zs := [18]) (by kernel_rfl) ?_
  show Zreg.After _ _ _ _ _ _ 23 #[false, false, false, false, false, false, false, false, false, false, false, false, false, false, false, false, false, false, false, false, false, false, false] _ _
  refine Zreg.takeP 0 15 (x := ?xb_0) rfl rfl (by kernel_rfl) (by kernel_rfl) (by kernel_rfl) (by kernel_rfl) (fun _ _ _ h => h) (.inr ⟨C1.out.cell, (T1.out.cell _).trans HE3.out, (T1.out.cell _).trans HE4.out, (T1.out.cell _).trans HE5.out, (T1.out.cell _).trans HE6.out, (T1.out.cell _).trans HE7.out⟩) (Or.inl ⟨by rfl, ?yb_0⟩) ?rb_0
  case yb_0 => (intro w _; go_simp <;> with_reducible rfl)
  simp only [List.setIfInBounds_toArray, List.set_cons_zero, List.set_cons_succ]
  refine Zreg.takeP 1 16 (x := ?xb_1) rfl rfl (by kernel_rfl) (by kernel_rfl) (by kernel_rfl) (by kernel_rfl) (fun _ _ _ h => h) (.inr ⟨C1.out.cell, (T1.out.cell _).trans HE3.out, (T1.out.cell _).trans HE4.out, (T1.out.cell _).trans HE5.out, (T1.out.cell _).trans HE6.out, (T1.out.cell _).trans HE7.out⟩) (Or.inl ⟨by rfl, ?yb_1⟩) ?rb_1
  case yb_1 => (intro w _; go_simp <;> with_reducible rfl)
  simp only [List.setIfInBounds_toArray, List.set_cons_zero, List.set_cons_succ]
  refine Zreg.takeP 2 17 (x := ?xb_2) rfl rfl (by kernel_rfl) (by kernel_rfl) (by kernel_rfl) (by kernel_rfl) (fun _ _ _ h => h) (.inr ⟨C1.out.cell, (T1.out.cell _).trans HE3.out, (T1.out.cell _).trans HE4.out, (T1.out.cell _).trans HE5.out, (T1.out.cell _).trans HE6.out, (T1.out.cell _).trans HE7.out⟩) (Or.inl ⟨by rfl, ?yb_2⟩) ?rb_2
  case yb_2 => (intro w _; go_simp <;> with_reducible rfl)
  simp only [List.setIfInBounds_toArray, List.set_cons_zero, List.set_cons_succ]
  refine Zreg.takeP 3 18 (x := ?xb_3) rfl rfl (by kernel_rfl) (by kernel_rfl) (by kernel_rfl) (by kernel_rfl) (fun _ _ _ h => h) (.inr ⟨C1.out.cell, (T1.out.cell _).trans HE3.out, (T1.out.cell _).trans HE4.out, (T1.out.cell _).trans HE5.out, (T1.out.cell _).trans HE6.out, (T1.out.cell _).trans HE7.out⟩) (Or.inl ⟨by rfl, ?yb_3⟩) ?rb_3
  case yb_3 => (intro w _; go_simp <;> with_reducible rfl)
  simp only [List.setIfInBounds_toArray, List.set_cons_zero, List.set_cons_succ]
  refine Zreg.takeP 4 19 (x := ?xb_4) rfl rfl (by kernel_rfl) (by kernel_rfl) (by kernel_rfl) (by kernel_rfl) (fun _ _ _ h => h) (.inr ⟨C1.out.cell, (T1.out.cell _).trans HE3.out, (T1.out.cell _).trans HE4.out, (T1.out.cell _).trans HE5.out, (T1.out.cell _).trans HE6.out, (T1.out.cell _).trans HE7.out⟩) (Or.inl ⟨by rfl, ?yb_4⟩) ?rb_4
  case yb_4 => (intro w _; go_simp <;> with_reducible rfl)
  simp only [List.setIfInBounds_toArray, List.set_cons_zero, List.set_cons_succ]
  refine Zreg.takeS 5 20 (x := ?xb_5) rfl rfl (by kernel_rfl) (by kernel_rfl) (by kernel_rfl) (by kernel_rfl) (by kernel_rfl) (by kernel_rfl) (fun _ _ _ h => h) (.inr ⟨C1.out.cell, (T1.out.cell _).trans HE3.out, (T1.out.cell _).trans HE4.out, (T1.out.cell _).trans HE5.out, (T1.out.cell _).trans HE6.out, (T1.out.cell _).trans HE7.out⟩) (Or.inl ⟨by rfl, ?yb_5⟩) ?rb_5
  case yb_5 => (intro w hSw; (try dsimp only at hSw); go_simp <;> with_reducible rfl)
  simp only [List.setIfInBounds_toArray, List.set_cons_zero, List.set_cons_succ]
  refine Zreg.takeP 6 21 (x := ?xb_6) rfl rfl (by kernel_rfl) (by kernel_rfl) (by kernel_rfl) (by kernel_rfl) (fun _ _ _ h => h) (.inr ⟨C1.out.cell, (T1.out.cell _).trans HE3.out, (T1.out.cell _).trans HE4.out, (T1.out.cell _).trans HE5.out, (T1.out.cell _).trans HE6.out, (T1.out.cell _).trans HE7.out⟩) (Or.inl ⟨by rfl, ?yb_6⟩) ?rb_6
  case yb_6 => (intro w _; go_simp <;> with_reducible rfl)
  simp only [List.setIfInBounds_toArray, List.set_cons_zero, List.set_cons_succ]
  refine Zreg.takeP 7 22 (x := ?xb_7) rfl rfl (by kernel_rfl) (by kernel_rfl) (by kernel_rfl) (by kernel_rfl) (fun _ _ _ h => h) (.inr ⟨C1.out.cell, (T1.out.cell _).trans HE3.out, (T1.out.cell _).trans HE4.out, (T1.out.cell _).trans HE5.out, (T1.out.cell _).trans HE6.out, (T1.out.cell _).trans HE7.out⟩) (Or.inl ⟨by rfl, ?yb_7⟩) ?rb_7
  case yb_7 => (intro w _; go_simp <;> with_reducible rfl)
  simp only [List.setIfInBounds_toArray, List.set_cons_zero, List.set_cons_succ]
  refine Zreg.takeP 8 23 (x := ?xb_8) rfl rfl (by kernel_rfl) (by kernel_rfl) (by kernel_rfl) (by kernel_rfl) (fun _ _ _ h => h) (.inr ⟨C1.out.cell, (T1.out.cell _).trans HE3.out, (T1.out.cell _).trans HE4.out, (T1.out.cell _).trans HE5.out, (T1.out.cell _).trans HE6.out, (T1.out.cell _).trans HE7.out⟩) (Or.inl ⟨by rfl, ?yb_8⟩) ?rb_8
  case yb_8 => (intro w _; go_simp <;> with_reducible rfl)
  simp only [List.setIfInBounds_toArray, List.set_cons_zero, List.set_cons_succ]
  refine Zreg.takeS 9 24 (x := ?xb_9) rfl rfl (by kernel_rfl) (by kernel_rfl) (by kernel_rfl) (by kernel_rfl) (by kernel_rfl) (by kernel_rfl) (fun _ _ _ h => h) (.inr ⟨C1.out.cell, (T1.out.cell _).trans HE3.out, (T1.out.cell _).trans HE4.out, (T1.out.cell _).trans HE5.out, (T1.out.cell _).trans HE6.out, (T1.out.cell _).trans HE7.out⟩) (Or.inl ⟨by rfl, ?yb_9⟩) ?rb_9
  case yb_9 => (intro w hSw; (try dsimp only at hSw); go_simp <;> with_reducible rfl)
  simp only [List.setIfInBounds_toArray, List.set_cons_zero, List.set_cons_succ]
  refine Zreg.one 10 (by kernel_rfl) rfl rfl fun K hK => ?_
  go_simp
  go_at_call 115
  refine (do_own _ _ r m a (Endw.rm E1.out) (Nat.le_refl _) FEW.out HA.out).mono ?_
  rintro e w3 ⟨r3, he, hr3, hb3, ho3⟩
  rw [EW.out, ED.out] at he
  subst he
  go_must (have C1_ := Lib.hid (C1.out.below hb3 C1.out.lt); have T1_ := Lib.hid (T1.out.below hb3 T1.out.lt); have X1_ := Lib.hid (X1.out.below hb3 X1.out.lt); have K1_ := Lib.hid (K1.out.below hb3 (Nat.le_refl _)); have R1_ := Lib.hid (R1.out.below hb3 (Nat.le_refl _)); have Q1_ := Lib.hid (Q1.out.below hb3 Q1.out.lt); have F1_ := Lib.hid (F1.out.below hb3 (Nat.le_refl _)); have L1_ : Hid (Kept w3 l) := Lib.hid (fun x hx => (L1.out x hx).below hb3 (L1.out x hx).lt); have E1_ : Hid (Endw w3 base r3 (acc m a).1) := Lib.hid ⟨⟨hr3.1, hr3.2.1, hr3.2.2.1, hr3.2.2.2.1⟩, hr3.2.2.2.2.1, fun ar hl => (ho3 ar hl).weaken hbV.out⟩; have O1_ := Lib.hid (O1.out.next (Only.of_below (P := fun _ => False) hb3 (Nat.le_refl _)) (fun k _ h => h.elim)))
  clear hr3 hb3 ho3 C1 T1 X1 K1 R1 Q1 F1 L1 E1 O1
  have C1 := Lib.hid C1_.out
  have T1 := Lib.hid T1_.out
  have X1 := Lib.hid X1_.out
  have K1 := Lib.hid K1_.out
  have R1 := Lib.hid R1_.out
  have Q1 := Lib.hid Q1_.out
  have F1 := Lib.hid F1_.out
  have L1 := Lib.hid L1_.out
  have E1 := Lib.hid E1_.out
  have O1 := Lib.hid O1_.out
  clear C1_ T1_ X1_ K1_ R1_ Q1_ F1_ L1_ E1_ O1_
  have hc := C1.out.cell
  have hcf := C1.out.frozen
  have hx := X1.out.cell
  have hxf := X1.out.frozen
  refine hK.out _ _ (.inr ⟨C1.out.cell, (T1.out.cell _).trans HE3.out, (T1.out.cell _).trans HE4.out, (T1.out.cell _).trans HE5.out, (T1.out.cell _).trans HE6.out, (T1.out.cell _).trans HE7.out⟩) fun _ => ?_
  clear hK
  simp only [List.setIfInBounds_toArray, List.set_cons_zero, List.set_cons_succ]
  refine Zreg.takeP 11 14 (x := ?xb_11) rfl rfl (by kernel_rfl) (by kernel_rfl) (by kernel_rfl) (by kernel_rfl) (fun _ _ _ h => h) (.inr ⟨C1.out.cell, (T1.out.cell _).trans HE3.out, (T1.out.cell _).trans HE4.out, (T1.out.cell _).trans HE5.out, (T1.out.cell _).trans HE6.out, (T1.out.cell _).trans HE7.out⟩) (Or.inl ⟨by rfl, ?yb_11⟩) ?rb_11
  case yb_11 => (intro w _; go_simp <;> with_reducible rfl)
  simp only [List.setIfInBounds_toArray, List.set_cons_zero, List.set_cons_succ]
  refine Zreg.takeP 12 26 (x := ?xb_12) rfl rfl (by kernel_rfl) (by kernel_rfl) (by kernel_rfl) (by kernel_rfl) (fun _ _ _ h => h) (.inr ⟨C1.out.cell, (T1.out.cell _).trans HE3.out, (T1.out.cell _).trans HE4.out, (T1.out.cell _).trans HE5.out, (T1.out.cell _).trans HE6.out, (T1.out.cell _).trans HE7.out⟩) (Or.inl ⟨by rfl, ?yb_12⟩) ?rb_12
  case yb_12 => (intro w _; go_simp <;> with_reducible rfl)
  simp only [List.setIfInBounds_toArray, List.set_cons_zero, List.set_cons_succ]
  refine Zreg.takeP 13 27 (x := ?xb_13) rfl rfl (by kernel_rfl) (by kernel_rfl) (by kernel_rfl) (by kernel_rfl) (fun _ _ _ h => h) (.inr ⟨C1.out.cell, (T1.out.cell _).trans HE3.out, (T1.out.cell _).trans HE4.out, (T1.out.cell _).trans HE5.out, (T1.out.cell _).trans HE6.out, (T1.out.cell _).trans HE7.out⟩) (Or.inl ⟨by rfl, ?yb_13⟩) ?rb_13
  case yb_13 => (intro w _; go_simp <;> with_reducible rfl)
  simp only [List.setIfInBounds_toArray, List.set_cons_zero, List.set_cons_succ]
  refine Zreg.takeP 14 28 (x := ?xb_14) rfl rfl (by kernel_rfl) (by kernel_rfl) (by kernel_rfl) (by kernel_rfl) (fun _ _ _ h => h) (.inr ⟨C1.out.cell, (T1.out.cell _).trans HE3.out, (T1.out.cell _).trans HE4.out, (T1.out.cell _).trans HE5.out, (T1.out.cell _).trans HE6.out, (T1.out.cell _).trans HE7.out⟩) (Or.inl ⟨by rfl, ?yb_14⟩) ?rb_14
  case yb_14 => (intro w _; go_simp <;> with_reducible rfl)
  simp only [List.setIfInBounds_toArray, List.set_cons_zero, List.set_cons_succ]
  refine Zreg.takeP 15 29 (x := ?xb_15) rfl rfl (by kernel_rfl) (by kernel_rfl) (by kernel_rfl) (by kernel_rfl) (fun _ _ _ h => h) (.inr ⟨C1.out.cell, (T1.out.cell _).trans HE3.out, (T1.out.cell _).trans HE4.out, (T1.out.cell _).trans HE5.out, (T1.out.cell _).trans HE6.out, (T1.out.cell _).trans HE7.out⟩) (Or.inl ⟨by rfl, ?yb_15⟩) ?rb_15
  case yb_15 => (intro w _; go_simp <;> with_reducible rfl)
  simp only [List.setIfInBounds_toArray, List.set_cons_zero, List.set_cons_succ]
  refine Zreg.takeP 16 30 (x := ?xb_16) rfl rfl (by kernel_rfl) (by kernel_rfl) (by kernel_rfl) (by kernel_rfl) (fun _ _ _ h => h) (.inr ⟨C1.out.cell, (T1.out.cell _).trans HE3.out, (T1.out.cell _).trans HE4.out, (T1.out.cell _).trans HE5.out, (T1.out.cell _).trans HE6.out, (T1.out.cell _).trans HE7.out⟩) (Or.inl ⟨by rfl, ?yb_16⟩) ?rb_16
  case yb_16 => (intro w _; go_simp <;> with_reducible rfl)
  simp only [List.setIfInBounds_toArray, List.set_cons_zero, List.set_cons_succ]
  refine Zreg.takeP 17 31 (x := ?xb_17) rfl rfl (by kernel_rfl) (by kernel_rfl) (by kernel_rfl) (by kernel_rfl) (fun _ _ _ h => h) (.inr ⟨C1.out.cell, (T1.out.cell _).trans HE3.out, (T1.out.cell _).trans HE4.out, (T1.out.cell _).trans HE5.out, (T1.out.cell _).trans HE6.out, (T1.out.cell _).trans HE7.out⟩) (Or.inl ⟨by rfl, ?yb_17⟩) ?rb_17
  case yb_17 => (intro w _; go_simp <;> with_reducible rfl)
  simp only [List.setIfInBounds_toArray, List.set_cons_zero, List.set_cons_succ]
  refine Zreg.one 18 (by kernel_rfl) rfl rfl fun K hK => ?_
  go_simp
  refine hK.out _ _ (.inl (by kernel_rfl)) fun _ => ?_
  clear hK
  simp only [List.setIfInBounds_toArray, List.set_cons_zero, List.set_cons_succ]
  refine Zreg.takeP 19 32 (x := ?xb_19) rfl rfl (by kernel_rfl) (by kernel_rfl) (by kernel_rfl) (by kernel_rfl) (fun _ _ _ h => h) (.inl (by kernel_rfl)) (Or.inl ⟨by rfl, ?yb_19⟩) ?rb_19
  case yb_19 => (intro w _; go_simp <;> with_reducible rfl)
  simp only [List.setIfInBounds_toArray, List.set_cons_zero, List.set_cons_succ]
  refine Zreg.one 20 (by kernel_rfl) rfl rfl fun K hK => ?_
  go_simp
  refine hK.out _ _ (.inl (by kernel_rfl)) fun _ => ?_
  clear hK
  simp only [List.setIfInBounds_toArray, List.set_cons_zero, List.set_cons_succ]
  refine Zreg.takeP 21 33 (x := ?xb_21) rfl rfl (by kernel_rfl) (by kernel_rfl) (by kernel_rfl) (by kernel_rfl) (fun _ _ _ h => h) (.inl (by kernel_rfl)) (Or.inl ⟨by rfl, ?yb_21⟩) ?rb_21
  case yb_21 => (intro w _; go_simp <;> with_reducible rfl)
  simp only [List.setIfInBounds_toArray, List.set_cons_zero, List.set_cons_succ]
  refine Zreg.one 22 (by kernel_rfl) rfl rfl fun K hK => ?_
  go_simp
  refine hK.out _ _ (.inl (by kernel_rfl)) fun _ => ?_
  clear hK
  simp only [List.setIfInBounds_toArray, List.set_cons_zero, List.set_cons_succ]
  refine Zreg.done (by kernel_rfl) ?_ _
  have HEC := Lib.hid (Endw.ne E1.out C1.out (by decide) (by decide))
  have HEX := Lib.hid (Endw.ne E1.out X1.out (by decide) (by decide))
  clear hc hcf hx hxf
  have C1_ : Hid (Blk (((((((((((w3.setCell ⟨gC, 4, none⟩ (.int .u64 r3.e)).setCell ⟨gC, 5, none⟩ (.int .u64 r3.f)).setCell ⟨gC, 6, none⟩ (.slice r3.L.A r3.L.n r3.L.c)).setCell ⟨gC, 7, none⟩ (.slice r3.P.A r3.P.n r3.P.c)).setCell ⟨gC, 8, none⟩ (.int .u64 r3.h)).setCell ⟨gC, 9, none⟩ (.int .u64 r3.t)).setCell ⟨gC, 10, none⟩ (.slice r3.K.A r3.K.n r3.K.c)).setCell ⟨gC, 11, none⟩ (.slice r3.X.A r3.X.n r3.X.c)).setCell ⟨gC, 12, none⟩ (.slice r3.S.A r3.S.n r3.S.c)).setCell ⟨w.heap.size, 6, none⟩ (.int .u64 wv)).setCell ⟨w.heap.size, 7, none⟩ (.bool dv)) gC 102 #[.func (.func B) #[] bs, .slice th.A th.n th.c, .slice sS.A sS.n sS.c, .slice sK.A sK.n sK.c, .int .u64 r3.e, .int .u64 r3.f, .slice r3.L.A r3.L.n r3.L.c, .slice r3.P.A r3.P.n r3.P.c, .int .u64 r3.h, .int .u64 r3.t, .slice r3.K.A r3.K.n r3.K.c, .slice r3.X.A r3.X.n r3.X.c, .slice r3.S.A r3.S.n r3.S.c]) := Lib.hid (by have h_ := (Blk.far (Blk.far (Blk.set_ (Blk.set_ (Blk.set_ (Blk.set_ (Blk.set_ (Blk.set_ (Blk.set_ (Blk.set_ (Blk.set_ C1.out 4 (.int .u64 r3.e)) 5 (.int .u64 r3.f)) 6 (.slice r3.L.A r3.L.n r3.L.c)) 7 (.slice r3.P.A r3.P.n r3.P.c)) 8 (.int .u64 r3.h)) 9 (.int .u64 r3.t)) 10 (.slice r3.K.A r3.K.n r3.K.c)) 11 (.slice r3.X.A r3.X.n r3.X.c)) 12 (.slice r3.S.A r3.S.n r3.S.c)) (p := ⟨w.heap.size, 6, none⟩) hCX (.int .u64 wv)) (p := ⟨w.heap.size, 7, none⟩) hCX (.bool dv)); simpa only [List.setIfInBounds_toArray, List.set_cons_zero, List.set_cons_succ] using h_)
  have T1_ := Lib.hid (Blk.far (Blk.far (Blk.far (Blk.far (Blk.far (Blk.far (Blk.far (Blk.far (Blk.far (Blk.far (Blk.far T1.out (p := ⟨gC, 4, none⟩) hTC (.int .u64 r3.e)) (p := ⟨gC, 5, none⟩) hTC (.int .u64 r3.f)) (p := ⟨gC, 6, none⟩) hTC (.slice r3.L.A r3.L.n r3.L.c)) (p := ⟨gC, 7, none⟩) hTC (.slice r3.P.A r3.P.n r3.P.c)) (p := ⟨gC, 8, none⟩) hTC (.int .u64 r3.h)) (p := ⟨gC, 9, none⟩) hTC (.int .u64 r3.t)) (p := ⟨gC, 10, none⟩) hTC (.slice r3.K.A r3.K.n r3.K.c)) (p := ⟨gC, 11, none⟩) hTC (.slice r3.X.A r3.X.n r3.X.c)) (p := ⟨gC, 12, none⟩) hTC (.slice r3.S.A r3.S.n r3.S.c)) (p := ⟨w.heap.size, 6, none⟩) hTX (.int .u64 wv)) (p := ⟨w.heap.size, 7, none⟩) hTX (.bool dv))
  have X1_ : Hid (Blk (((((((((((w3.setCell ⟨gC, 4, none⟩ (.int .u64 r3.e)).setCell ⟨gC, 5, none⟩ (.int .u64 r3.f)).setCell ⟨gC, 6, none⟩ (.slice r3.L.A r3.L.n r3.L.c)).setCell ⟨gC, 7, none⟩ (.slice r3.P.A r3.P.n r3.P.c)).setCell ⟨gC, 8, none⟩ (.int .u64 r3.h)).setCell ⟨gC, 9, none⟩ (.int .u64 r3.t)).setCell ⟨gC, 10, none⟩ (.slice r3.K.A r3.K.n r3.K.c)).setCell ⟨gC, 11, none⟩ (.slice r3.X.A r3.X.n r3.X.c)).setCell ⟨gC, 12, none⟩ (.slice r3.S.A r3.S.n r3.S.c)).setCell ⟨w.heap.size, 6, none⟩ (.int .u64 wv)).setCell ⟨w.heap.size, 7, none⟩ (.bool dv)) w.heap.size 59 #[.int .i64 i, .int .i64 a.d, .int .i64 a.ar, .int .i64 a.at_, .int .u64 a.old, .int .u64 a.new, .int .u64 wv, .bool dv]) := Lib.hid (by have h_ := (Blk.set_ (Blk.set_ (Blk.far (Blk.far (Blk.far (Blk.far (Blk.far (Blk.far (Blk.far (Blk.far (Blk.far X1.out (p := ⟨gC, 4, none⟩) hXC (.int .u64 r3.e)) (p := ⟨gC, 5, none⟩) hXC (.int .u64 r3.f)) (p := ⟨gC, 6, none⟩) hXC (.slice r3.L.A r3.L.n r3.L.c)) (p := ⟨gC, 7, none⟩) hXC (.slice r3.P.A r3.P.n r3.P.c)) (p := ⟨gC, 8, none⟩) hXC (.int .u64 r3.h)) (p := ⟨gC, 9, none⟩) hXC (.int .u64 r3.t)) (p := ⟨gC, 10, none⟩) hXC (.slice r3.K.A r3.K.n r3.K.c)) (p := ⟨gC, 11, none⟩) hXC (.slice r3.X.A r3.X.n r3.X.c)) (p := ⟨gC, 12, none⟩) hXC (.slice r3.S.A r3.S.n r3.S.c)) 6 (.int .u64 wv)) 7 (.bool dv)); simpa only [List.setIfInBounds_toArray, List.set_cons_zero, List.set_cons_succ] using h_)
  have K1_ := Lib.hid (Row.kept (w' := (((((((((((w3.setCell ⟨gC, 4, none⟩ (.int .u64 r3.e)).setCell ⟨gC, 5, none⟩ (.int .u64 r3.f)).setCell ⟨gC, 6, none⟩ (.slice r3.L.A r3.L.n r3.L.c)).setCell ⟨gC, 7, none⟩ (.slice r3.P.A r3.P.n r3.P.c)).setCell ⟨gC, 8, none⟩ (.int .u64 r3.h)).setCell ⟨gC, 9, none⟩ (.int .u64 r3.t)).setCell ⟨gC, 10, none⟩ (.slice r3.K.A r3.K.n r3.K.c)).setCell ⟨gC, 11, none⟩ (.slice r3.X.A r3.X.n r3.X.c)).setCell ⟨gC, 12, none⟩ (.slice r3.S.A r3.S.n r3.S.c)).setCell ⟨w.heap.size, 6, none⟩ (.int .u64 wv)).setCell ⟨w.heap.size, 7, none⟩ (.bool dv))) (Row.kept (w' := ((((((((((w3.setCell ⟨gC, 4, none⟩ (.int .u64 r3.e)).setCell ⟨gC, 5, none⟩ (.int .u64 r3.f)).setCell ⟨gC, 6, none⟩ (.slice r3.L.A r3.L.n r3.L.c)).setCell ⟨gC, 7, none⟩ (.slice r3.P.A r3.P.n r3.P.c)).setCell ⟨gC, 8, none⟩ (.int .u64 r3.h)).setCell ⟨gC, 9, none⟩ (.int .u64 r3.t)).setCell ⟨gC, 10, none⟩ (.slice r3.K.A r3.K.n r3.K.c)).setCell ⟨gC, 11, none⟩ (.slice r3.X.A r3.X.n r3.X.c)).setCell ⟨gC, 12, none⟩ (.slice r3.S.A r3.S.n r3.S.c)).setCell ⟨w.heap.size, 6, none⟩ (.int .u64 wv))) (Row.kept (w' := (((((((((w3.setCell ⟨gC, 4, none⟩ (.int .u64 r3.e)).setCell ⟨gC, 5, none⟩ (.int .u64 r3.f)).setCell ⟨gC, 6, none⟩ (.slice r3.L.A r3.L.n r3.L.c)).setCell ⟨gC, 7, none⟩ (.slice r3.P.A r3.P.n r3.P.c)).setCell ⟨gC, 8, none⟩ (.int .u64 r3.h)).setCell ⟨gC, 9, none⟩ (.int .u64 r3.t)).setCell ⟨gC, 10, none⟩ (.slice r3.K.A r3.K.n r3.K.c)).setCell ⟨gC, 11, none⟩ (.slice r3.X.A r3.X.n r3.X.c)).setCell ⟨gC, 12, none⟩ (.slice r3.S.A r3.S.n r3.S.c))) (Row.kept (w' := ((((((((w3.setCell ⟨gC, 4, none⟩ (.int .u64 r3.e)).setCell ⟨gC, 5, none⟩ (.int .u64 r3.f)).setCell ⟨gC, 6, none⟩ (.slice r3.L.A r3.L.n r3.L.c)).setCell ⟨gC, 7, none⟩ (.slice r3.P.A r3.P.n r3.P.c)).setCell ⟨gC, 8, none⟩ (.int .u64 r3.h)).setCell ⟨gC, 9, none⟩ (.int .u64 r3.t)).setCell ⟨gC, 10, none⟩ (.slice r3.K.A r3.K.n r3.K.c)).setCell ⟨gC, 11, none⟩ (.slice r3.X.A r3.X.n r3.X.c))) (Row.kept (w' := (((((((w3.setCell ⟨gC, 4, none⟩ (.int .u64 r3.e)).setCell ⟨gC, 5, none⟩ (.int .u64 r3.f)).setCell ⟨gC, 6, none⟩ (.slice r3.L.A r3.L.n r3.L.c)).setCell ⟨gC, 7, none⟩ (.slice r3.P.A r3.P.n r3.P.c)).setCell ⟨gC, 8, none⟩ (.int .u64 r3.h)).setCell ⟨gC, 9, none⟩ (.int .u64 r3.t)).setCell ⟨gC, 10, none⟩ (.slice r3.K.A r3.K.n r3.K.c))) (Row.kept (w' := ((((((w3.setCell ⟨gC, 4, none⟩ (.int .u64 r3.e)).setCell ⟨gC, 5, none⟩ (.int .u64 r3.f)).setCell ⟨gC, 6, none⟩ (.slice r3.L.A r3.L.n r3.L.c)).setCell ⟨gC, 7, none⟩ (.slice r3.P.A r3.P.n r3.P.c)).setCell ⟨gC, 8, none⟩ (.int .u64 r3.h)).setCell ⟨gC, 9, none⟩ (.int .u64 r3.t))) (Row.kept (w' := (((((w3.setCell ⟨gC, 4, none⟩ (.int .u64 r3.e)).setCell ⟨gC, 5, none⟩ (.int .u64 r3.f)).setCell ⟨gC, 6, none⟩ (.slice r3.L.A r3.L.n r3.L.c)).setCell ⟨gC, 7, none⟩ (.slice r3.P.A r3.P.n r3.P.c)).setCell ⟨gC, 8, none⟩ (.int .u64 r3.h))) (Row.kept (w' := ((((w3.setCell ⟨gC, 4, none⟩ (.int .u64 r3.e)).setCell ⟨gC, 5, none⟩ (.int .u64 r3.f)).setCell ⟨gC, 6, none⟩ (.slice r3.L.A r3.L.n r3.L.c)).setCell ⟨gC, 7, none⟩ (.slice r3.P.A r3.P.n r3.P.c))) (Row.kept (w' := (((w3.setCell ⟨gC, 4, none⟩ (.int .u64 r3.e)).setCell ⟨gC, 5, none⟩ (.int .u64 r3.f)).setCell ⟨gC, 6, none⟩ (.slice r3.L.A r3.L.n r3.L.c))) (Row.kept (w' := ((w3.setCell ⟨gC, 4, none⟩ (.int .u64 r3.e)).setCell ⟨gC, 5, none⟩ (.int .u64 r3.f))) (Row.kept (w' := (w3.setCell ⟨gC, 4, none⟩ (.int .u64 r3.e))) K1.out (fun g_ hg_ => Below.heap_setCell _ _ _ _ (HKC.out g_ hg_))) (fun g_ hg_ => Below.heap_setCell _ _ _ _ (HKC.out g_ hg_))) (fun g_ hg_ => Below.heap_setCell _ _ _ _ (HKC.out g_ hg_))) (fun g_ hg_ => Below.heap_setCell _ _ _ _ (HKC.out g_ hg_))) (fun g_ hg_ => Below.heap_setCell _ _ _ _ (HKC.out g_ hg_))) (fun g_ hg_ => Below.heap_setCell _ _ _ _ (HKC.out g_ hg_))) (fun g_ hg_ => Below.heap_setCell _ _ _ _ (HKC.out g_ hg_))) (fun g_ hg_ => Below.heap_setCell _ _ _ _ (HKC.out g_ hg_))) (fun g_ hg_ => Below.heap_setCell _ _ _ _ (HKC.out g_ hg_))) (fun g_ hg_ => Below.heap_setCell _ _ _ _ (HKX.out g_ hg_))) (fun g_ hg_ => Below.heap_setCell _ _ _ _ (HKX.out g_ hg_)))
  have R1_ := Lib.hid (Row.kept (w' := (((((((((((w3.setCell ⟨gC, 4, none⟩ (.int .u64 r3.e)).setCell ⟨gC, 5, none⟩ (.int .u64 r3.f)).setCell ⟨gC, 6, none⟩ (.slice r3.L.A r3.L.n r3.L.c)).setCell ⟨gC, 7, none⟩ (.slice r3.P.A r3.P.n r3.P.c)).setCell ⟨gC, 8, none⟩ (.int .u64 r3.h)).setCell ⟨gC, 9, none⟩ (.int .u64 r3.t)).setCell ⟨gC, 10, none⟩ (.slice r3.K.A r3.K.n r3.K.c)).setCell ⟨gC, 11, none⟩ (.slice r3.X.A r3.X.n r3.X.c)).setCell ⟨gC, 12, none⟩ (.slice r3.S.A r3.S.n r3.S.c)).setCell ⟨w.heap.size, 6, none⟩ (.int .u64 wv)).setCell ⟨w.heap.size, 7, none⟩ (.bool dv))) (Row.kept (w' := ((((((((((w3.setCell ⟨gC, 4, none⟩ (.int .u64 r3.e)).setCell ⟨gC, 5, none⟩ (.int .u64 r3.f)).setCell ⟨gC, 6, none⟩ (.slice r3.L.A r3.L.n r3.L.c)).setCell ⟨gC, 7, none⟩ (.slice r3.P.A r3.P.n r3.P.c)).setCell ⟨gC, 8, none⟩ (.int .u64 r3.h)).setCell ⟨gC, 9, none⟩ (.int .u64 r3.t)).setCell ⟨gC, 10, none⟩ (.slice r3.K.A r3.K.n r3.K.c)).setCell ⟨gC, 11, none⟩ (.slice r3.X.A r3.X.n r3.X.c)).setCell ⟨gC, 12, none⟩ (.slice r3.S.A r3.S.n r3.S.c)).setCell ⟨w.heap.size, 6, none⟩ (.int .u64 wv))) (Row.kept (w' := (((((((((w3.setCell ⟨gC, 4, none⟩ (.int .u64 r3.e)).setCell ⟨gC, 5, none⟩ (.int .u64 r3.f)).setCell ⟨gC, 6, none⟩ (.slice r3.L.A r3.L.n r3.L.c)).setCell ⟨gC, 7, none⟩ (.slice r3.P.A r3.P.n r3.P.c)).setCell ⟨gC, 8, none⟩ (.int .u64 r3.h)).setCell ⟨gC, 9, none⟩ (.int .u64 r3.t)).setCell ⟨gC, 10, none⟩ (.slice r3.K.A r3.K.n r3.K.c)).setCell ⟨gC, 11, none⟩ (.slice r3.X.A r3.X.n r3.X.c)).setCell ⟨gC, 12, none⟩ (.slice r3.S.A r3.S.n r3.S.c))) (Row.kept (w' := ((((((((w3.setCell ⟨gC, 4, none⟩ (.int .u64 r3.e)).setCell ⟨gC, 5, none⟩ (.int .u64 r3.f)).setCell ⟨gC, 6, none⟩ (.slice r3.L.A r3.L.n r3.L.c)).setCell ⟨gC, 7, none⟩ (.slice r3.P.A r3.P.n r3.P.c)).setCell ⟨gC, 8, none⟩ (.int .u64 r3.h)).setCell ⟨gC, 9, none⟩ (.int .u64 r3.t)).setCell ⟨gC, 10, none⟩ (.slice r3.K.A r3.K.n r3.K.c)).setCell ⟨gC, 11, none⟩ (.slice r3.X.A r3.X.n r3.X.c))) (Row.kept (w' := (((((((w3.setCell ⟨gC, 4, none⟩ (.int .u64 r3.e)).setCell ⟨gC, 5, none⟩ (.int .u64 r3.f)).setCell ⟨gC, 6, none⟩ (.slice r3.L.A r3.L.n r3.L.c)).setCell ⟨gC, 7, none⟩ (.slice r3.P.A r3.P.n r3.P.c)).setCell ⟨gC, 8, none⟩ (.int .u64 r3.h)).setCell ⟨gC, 9, none⟩ (.int .u64 r3.t)).setCell ⟨gC, 10, none⟩ (.slice r3.K.A r3.K.n r3.K.c))) (Row.kept (w' := ((((((w3.setCell ⟨gC, 4, none⟩ (.int .u64 r3.e)).setCell ⟨gC, 5, none⟩ (.int .u64 r3.f)).setCell ⟨gC, 6, none⟩ (.slice r3.L.A r3.L.n r3.L.c)).setCell ⟨gC, 7, none⟩ (.slice r3.P.A r3.P.n r3.P.c)).setCell ⟨gC, 8, none⟩ (.int .u64 r3.h)).setCell ⟨gC, 9, none⟩ (.int .u64 r3.t))) (Row.kept (w' := (((((w3.setCell ⟨gC, 4, none⟩ (.int .u64 r3.e)).setCell ⟨gC, 5, none⟩ (.int .u64 r3.f)).setCell ⟨gC, 6, none⟩ (.slice r3.L.A r3.L.n r3.L.c)).setCell ⟨gC, 7, none⟩ (.slice r3.P.A r3.P.n r3.P.c)).setCell ⟨gC, 8, none⟩ (.int .u64 r3.h))) (Row.kept (w' := ((((w3.setCell ⟨gC, 4, none⟩ (.int .u64 r3.e)).setCell ⟨gC, 5, none⟩ (.int .u64 r3.f)).setCell ⟨gC, 6, none⟩ (.slice r3.L.A r3.L.n r3.L.c)).setCell ⟨gC, 7, none⟩ (.slice r3.P.A r3.P.n r3.P.c))) (Row.kept (w' := (((w3.setCell ⟨gC, 4, none⟩ (.int .u64 r3.e)).setCell ⟨gC, 5, none⟩ (.int .u64 r3.f)).setCell ⟨gC, 6, none⟩ (.slice r3.L.A r3.L.n r3.L.c))) (Row.kept (w' := ((w3.setCell ⟨gC, 4, none⟩ (.int .u64 r3.e)).setCell ⟨gC, 5, none⟩ (.int .u64 r3.f))) (Row.kept (w' := (w3.setCell ⟨gC, 4, none⟩ (.int .u64 r3.e))) R1.out (fun g_ hg_ => Below.heap_setCell _ _ _ _ (HRC.out g_ hg_))) (fun g_ hg_ => Below.heap_setCell _ _ _ _ (HRC.out g_ hg_))) (fun g_ hg_ => Below.heap_setCell _ _ _ _ (HRC.out g_ hg_))) (fun g_ hg_ => Below.heap_setCell _ _ _ _ (HRC.out g_ hg_))) (fun g_ hg_ => Below.heap_setCell _ _ _ _ (HRC.out g_ hg_))) (fun g_ hg_ => Below.heap_setCell _ _ _ _ (HRC.out g_ hg_))) (fun g_ hg_ => Below.heap_setCell _ _ _ _ (HRC.out g_ hg_))) (fun g_ hg_ => Below.heap_setCell _ _ _ _ (HRC.out g_ hg_))) (fun g_ hg_ => Below.heap_setCell _ _ _ _ (HRC.out g_ hg_))) (fun g_ hg_ => Below.heap_setCell _ _ _ _ (HRX.out g_ hg_))) (fun g_ hg_ => Below.heap_setCell _ _ _ _ (HRX.out g_ hg_)))
  have E1_ := Lib.hid (Endw.kept (w' := (((((((((((w3.setCell ⟨gC, 4, none⟩ (.int .u64 r3.e)).setCell ⟨gC, 5, none⟩ (.int .u64 r3.f)).setCell ⟨gC, 6, none⟩ (.slice r3.L.A r3.L.n r3.L.c)).setCell ⟨gC, 7, none⟩ (.slice r3.P.A r3.P.n r3.P.c)).setCell ⟨gC, 8, none⟩ (.int .u64 r3.h)).setCell ⟨gC, 9, none⟩ (.int .u64 r3.t)).setCell ⟨gC, 10, none⟩ (.slice r3.K.A r3.K.n r3.K.c)).setCell ⟨gC, 11, none⟩ (.slice r3.X.A r3.X.n r3.X.c)).setCell ⟨gC, 12, none⟩ (.slice r3.S.A r3.S.n r3.S.c)).setCell ⟨w.heap.size, 6, none⟩ (.int .u64 wv)).setCell ⟨w.heap.size, 7, none⟩ (.bool dv))) (Endw.kept (w' := ((((((((((w3.setCell ⟨gC, 4, none⟩ (.int .u64 r3.e)).setCell ⟨gC, 5, none⟩ (.int .u64 r3.f)).setCell ⟨gC, 6, none⟩ (.slice r3.L.A r3.L.n r3.L.c)).setCell ⟨gC, 7, none⟩ (.slice r3.P.A r3.P.n r3.P.c)).setCell ⟨gC, 8, none⟩ (.int .u64 r3.h)).setCell ⟨gC, 9, none⟩ (.int .u64 r3.t)).setCell ⟨gC, 10, none⟩ (.slice r3.K.A r3.K.n r3.K.c)).setCell ⟨gC, 11, none⟩ (.slice r3.X.A r3.X.n r3.X.c)).setCell ⟨gC, 12, none⟩ (.slice r3.S.A r3.S.n r3.S.c)).setCell ⟨w.heap.size, 6, none⟩ (.int .u64 wv))) (Endw.kept (w' := (((((((((w3.setCell ⟨gC, 4, none⟩ (.int .u64 r3.e)).setCell ⟨gC, 5, none⟩ (.int .u64 r3.f)).setCell ⟨gC, 6, none⟩ (.slice r3.L.A r3.L.n r3.L.c)).setCell ⟨gC, 7, none⟩ (.slice r3.P.A r3.P.n r3.P.c)).setCell ⟨gC, 8, none⟩ (.int .u64 r3.h)).setCell ⟨gC, 9, none⟩ (.int .u64 r3.t)).setCell ⟨gC, 10, none⟩ (.slice r3.K.A r3.K.n r3.K.c)).setCell ⟨gC, 11, none⟩ (.slice r3.X.A r3.X.n r3.X.c)).setCell ⟨gC, 12, none⟩ (.slice r3.S.A r3.S.n r3.S.c))) (Endw.kept (w' := ((((((((w3.setCell ⟨gC, 4, none⟩ (.int .u64 r3.e)).setCell ⟨gC, 5, none⟩ (.int .u64 r3.f)).setCell ⟨gC, 6, none⟩ (.slice r3.L.A r3.L.n r3.L.c)).setCell ⟨gC, 7, none⟩ (.slice r3.P.A r3.P.n r3.P.c)).setCell ⟨gC, 8, none⟩ (.int .u64 r3.h)).setCell ⟨gC, 9, none⟩ (.int .u64 r3.t)).setCell ⟨gC, 10, none⟩ (.slice r3.K.A r3.K.n r3.K.c)).setCell ⟨gC, 11, none⟩ (.slice r3.X.A r3.X.n r3.X.c))) (Endw.kept (w' := (((((((w3.setCell ⟨gC, 4, none⟩ (.int .u64 r3.e)).setCell ⟨gC, 5, none⟩ (.int .u64 r3.f)).setCell ⟨gC, 6, none⟩ (.slice r3.L.A r3.L.n r3.L.c)).setCell ⟨gC, 7, none⟩ (.slice r3.P.A r3.P.n r3.P.c)).setCell ⟨gC, 8, none⟩ (.int .u64 r3.h)).setCell ⟨gC, 9, none⟩ (.int .u64 r3.t)).setCell ⟨gC, 10, none⟩ (.slice r3.K.A r3.K.n r3.K.c))) (Endw.kept (w' := ((((((w3.setCell ⟨gC, 4, none⟩ (.int .u64 r3.e)).setCell ⟨gC, 5, none⟩ (.int .u64 r3.f)).setCell ⟨gC, 6, none⟩ (.slice r3.L.A r3.L.n r3.L.c)).setCell ⟨gC, 7, none⟩ (.slice r3.P.A r3.P.n r3.P.c)).setCell ⟨gC, 8, none⟩ (.int .u64 r3.h)).setCell ⟨gC, 9, none⟩ (.int .u64 r3.t))) (Endw.kept (w' := (((((w3.setCell ⟨gC, 4, none⟩ (.int .u64 r3.e)).setCell ⟨gC, 5, none⟩ (.int .u64 r3.f)).setCell ⟨gC, 6, none⟩ (.slice r3.L.A r3.L.n r3.L.c)).setCell ⟨gC, 7, none⟩ (.slice r3.P.A r3.P.n r3.P.c)).setCell ⟨gC, 8, none⟩ (.int .u64 r3.h))) (Endw.kept (w' := ((((w3.setCell ⟨gC, 4, none⟩ (.int .u64 r3.e)).setCell ⟨gC, 5, none⟩ (.int .u64 r3.f)).setCell ⟨gC, 6, none⟩ (.slice r3.L.A r3.L.n r3.L.c)).setCell ⟨gC, 7, none⟩ (.slice r3.P.A r3.P.n r3.P.c))) (Endw.kept (w' := (((w3.setCell ⟨gC, 4, none⟩ (.int .u64 r3.e)).setCell ⟨gC, 5, none⟩ (.int .u64 r3.f)).setCell ⟨gC, 6, none⟩ (.slice r3.L.A r3.L.n r3.L.c))) (Endw.kept (w' := ((w3.setCell ⟨gC, 4, none⟩ (.int .u64 r3.e)).setCell ⟨gC, 5, none⟩ (.int .u64 r3.f))) (Endw.kept (w' := (w3.setCell ⟨gC, 4, none⟩ (.int .u64 r3.e))) E1.out (fun ar hl_ ad_ ha_ => Below.heap_setCell _ _ _ _ (HEC.out ar hl_ ad_ ha_))) (fun ar hl_ ad_ ha_ => Below.heap_setCell _ _ _ _ (HEC.out ar hl_ ad_ ha_))) (fun ar hl_ ad_ ha_ => Below.heap_setCell _ _ _ _ (HEC.out ar hl_ ad_ ha_))) (fun ar hl_ ad_ ha_ => Below.heap_setCell _ _ _ _ (HEC.out ar hl_ ad_ ha_))) (fun ar hl_ ad_ ha_ => Below.heap_setCell _ _ _ _ (HEC.out ar hl_ ad_ ha_))) (fun ar hl_ ad_ ha_ => Below.heap_setCell _ _ _ _ (HEC.out ar hl_ ad_ ha_))) (fun ar hl_ ad_ ha_ => Below.heap_setCell _ _ _ _ (HEC.out ar hl_ ad_ ha_))) (fun ar hl_ ad_ ha_ => Below.heap_setCell _ _ _ _ (HEC.out ar hl_ ad_ ha_))) (fun ar hl_ ad_ ha_ => Below.heap_setCell _ _ _ _ (HEC.out ar hl_ ad_ ha_))) (fun ar hl_ ad_ ha_ => Below.heap_setCell _ _ _ _ (HEX.out ar hl_ ad_ ha_))) (fun ar hl_ ad_ ha_ => Below.heap_setCell _ _ _ _ (HEX.out ar hl_ ad_ ha_)))
  have Q1_ := Lib.hid (Blk.far (Blk.far (Blk.far (Blk.far (Blk.far (Blk.far (Blk.far (Blk.far (Blk.far (Blk.far (Blk.far Q1.out (p := ⟨gC, 4, none⟩) hPC (.int .u64 r3.e)) (p := ⟨gC, 5, none⟩) hPC (.int .u64 r3.f)) (p := ⟨gC, 6, none⟩) hPC (.slice r3.L.A r3.L.n r3.L.c)) (p := ⟨gC, 7, none⟩) hPC (.slice r3.P.A r3.P.n r3.P.c)) (p := ⟨gC, 8, none⟩) hPC (.int .u64 r3.h)) (p := ⟨gC, 9, none⟩) hPC (.int .u64 r3.t)) (p := ⟨gC, 10, none⟩) hPC (.slice r3.K.A r3.K.n r3.K.c)) (p := ⟨gC, 11, none⟩) hPC (.slice r3.X.A r3.X.n r3.X.c)) (p := ⟨gC, 12, none⟩) hPC (.slice r3.S.A r3.S.n r3.S.c)) (p := ⟨w.heap.size, 6, none⟩) hPX (.int .u64 wv)) (p := ⟨w.heap.size, 7, none⟩) hPX (.bool dv))
  have F1_ := Lib.hid (Row.kept (w' := (((((((((((w3.setCell ⟨gC, 4, none⟩ (.int .u64 r3.e)).setCell ⟨gC, 5, none⟩ (.int .u64 r3.f)).setCell ⟨gC, 6, none⟩ (.slice r3.L.A r3.L.n r3.L.c)).setCell ⟨gC, 7, none⟩ (.slice r3.P.A r3.P.n r3.P.c)).setCell ⟨gC, 8, none⟩ (.int .u64 r3.h)).setCell ⟨gC, 9, none⟩ (.int .u64 r3.t)).setCell ⟨gC, 10, none⟩ (.slice r3.K.A r3.K.n r3.K.c)).setCell ⟨gC, 11, none⟩ (.slice r3.X.A r3.X.n r3.X.c)).setCell ⟨gC, 12, none⟩ (.slice r3.S.A r3.S.n r3.S.c)).setCell ⟨w.heap.size, 6, none⟩ (.int .u64 wv)).setCell ⟨w.heap.size, 7, none⟩ (.bool dv))) (Row.kept (w' := ((((((((((w3.setCell ⟨gC, 4, none⟩ (.int .u64 r3.e)).setCell ⟨gC, 5, none⟩ (.int .u64 r3.f)).setCell ⟨gC, 6, none⟩ (.slice r3.L.A r3.L.n r3.L.c)).setCell ⟨gC, 7, none⟩ (.slice r3.P.A r3.P.n r3.P.c)).setCell ⟨gC, 8, none⟩ (.int .u64 r3.h)).setCell ⟨gC, 9, none⟩ (.int .u64 r3.t)).setCell ⟨gC, 10, none⟩ (.slice r3.K.A r3.K.n r3.K.c)).setCell ⟨gC, 11, none⟩ (.slice r3.X.A r3.X.n r3.X.c)).setCell ⟨gC, 12, none⟩ (.slice r3.S.A r3.S.n r3.S.c)).setCell ⟨w.heap.size, 6, none⟩ (.int .u64 wv))) (Row.kept (w' := (((((((((w3.setCell ⟨gC, 4, none⟩ (.int .u64 r3.e)).setCell ⟨gC, 5, none⟩ (.int .u64 r3.f)).setCell ⟨gC, 6, none⟩ (.slice r3.L.A r3.L.n r3.L.c)).setCell ⟨gC, 7, none⟩ (.slice r3.P.A r3.P.n r3.P.c)).setCell ⟨gC, 8, none⟩ (.int .u64 r3.h)).setCell ⟨gC, 9, none⟩ (.int .u64 r3.t)).setCell ⟨gC, 10, none⟩ (.slice r3.K.A r3.K.n r3.K.c)).setCell ⟨gC, 11, none⟩ (.slice r3.X.A r3.X.n r3.X.c)).setCell ⟨gC, 12, none⟩ (.slice r3.S.A r3.S.n r3.S.c))) (Row.kept (w' := ((((((((w3.setCell ⟨gC, 4, none⟩ (.int .u64 r3.e)).setCell ⟨gC, 5, none⟩ (.int .u64 r3.f)).setCell ⟨gC, 6, none⟩ (.slice r3.L.A r3.L.n r3.L.c)).setCell ⟨gC, 7, none⟩ (.slice r3.P.A r3.P.n r3.P.c)).setCell ⟨gC, 8, none⟩ (.int .u64 r3.h)).setCell ⟨gC, 9, none⟩ (.int .u64 r3.t)).setCell ⟨gC, 10, none⟩ (.slice r3.K.A r3.K.n r3.K.c)).setCell ⟨gC, 11, none⟩ (.slice r3.X.A r3.X.n r3.X.c))) (Row.kept (w' := (((((((w3.setCell ⟨gC, 4, none⟩ (.int .u64 r3.e)).setCell ⟨gC, 5, none⟩ (.int .u64 r3.f)).setCell ⟨gC, 6, none⟩ (.slice r3.L.A r3.L.n r3.L.c)).setCell ⟨gC, 7, none⟩ (.slice r3.P.A r3.P.n r3.P.c)).setCell ⟨gC, 8, none⟩ (.int .u64 r3.h)).setCell ⟨gC, 9, none⟩ (.int .u64 r3.t)).setCell ⟨gC, 10, none⟩ (.slice r3.K.A r3.K.n r3.K.c))) (Row.kept (w' := ((((((w3.setCell ⟨gC, 4, none⟩ (.int .u64 r3.e)).setCell ⟨gC, 5, none⟩ (.int .u64 r3.f)).setCell ⟨gC, 6, none⟩ (.slice r3.L.A r3.L.n r3.L.c)).setCell ⟨gC, 7, none⟩ (.slice r3.P.A r3.P.n r3.P.c)).setCell ⟨gC, 8, none⟩ (.int .u64 r3.h)).setCell ⟨gC, 9, none⟩ (.int .u64 r3.t))) (Row.kept (w' := (((((w3.setCell ⟨gC, 4, none⟩ (.int .u64 r3.e)).setCell ⟨gC, 5, none⟩ (.int .u64 r3.f)).setCell ⟨gC, 6, none⟩ (.slice r3.L.A r3.L.n r3.L.c)).setCell ⟨gC, 7, none⟩ (.slice r3.P.A r3.P.n r3.P.c)).setCell ⟨gC, 8, none⟩ (.int .u64 r3.h))) (Row.kept (w' := ((((w3.setCell ⟨gC, 4, none⟩ (.int .u64 r3.e)).setCell ⟨gC, 5, none⟩ (.int .u64 r3.f)).setCell ⟨gC, 6, none⟩ (.slice r3.L.A r3.L.n r3.L.c)).setCell ⟨gC, 7, none⟩ (.slice r3.P.A r3.P.n r3.P.c))) (Row.kept (w' := (((w3.setCell ⟨gC, 4, none⟩ (.int .u64 r3.e)).setCell ⟨gC, 5, none⟩ (.int .u64 r3.f)).setCell ⟨gC, 6, none⟩ (.slice r3.L.A r3.L.n r3.L.c))) (Row.kept (w' := ((w3.setCell ⟨gC, 4, none⟩ (.int .u64 r3.e)).setCell ⟨gC, 5, none⟩ (.int .u64 r3.f))) (Row.kept (w' := (w3.setCell ⟨gC, 4, none⟩ (.int .u64 r3.e))) F1.out (fun g_ hg_ => Below.heap_setCell _ _ _ _ (HFC.out g_ hg_))) (fun g_ hg_ => Below.heap_setCell _ _ _ _ (HFC.out g_ hg_))) (fun g_ hg_ => Below.heap_setCell _ _ _ _ (HFC.out g_ hg_))) (fun g_ hg_ => Below.heap_setCell _ _ _ _ (HFC.out g_ hg_))) (fun g_ hg_ => Below.heap_setCell _ _ _ _ (HFC.out g_ hg_))) (fun g_ hg_ => Below.heap_setCell _ _ _ _ (HFC.out g_ hg_))) (fun g_ hg_ => Below.heap_setCell _ _ _ _ (HFC.out g_ hg_))) (fun g_ hg_ => Below.heap_setCell _ _ _ _ (HFC.out g_ hg_))) (fun g_ hg_ => Below.heap_setCell _ _ _ _ (HFC.out g_ hg_))) (fun g_ hg_ => Below.heap_setCell _ _ _ _ (HFX.out g_ hg_))) (fun g_ hg_ => Below.heap_setCell _ _ _ _ (HFX.out g_ hg_)))
  have L1_ := Lib.hid (show Kept (((((((((((w3.setCell ⟨gC, 4, none⟩ (.int .u64 r3.e)).setCell ⟨gC, 5, none⟩ (.int .u64 r3.f)).setCell ⟨gC, 6, none⟩ (.slice r3.L.A r3.L.n r3.L.c)).setCell ⟨gC, 7, none⟩ (.slice r3.P.A r3.P.n r3.P.c)).setCell ⟨gC, 8, none⟩ (.int .u64 r3.h)).setCell ⟨gC, 9, none⟩ (.int .u64 r3.t)).setCell ⟨gC, 10, none⟩ (.slice r3.K.A r3.K.n r3.K.c)).setCell ⟨gC, 11, none⟩ (.slice r3.X.A r3.X.n r3.X.c)).setCell ⟨gC, 12, none⟩ (.slice r3.S.A r3.S.n r3.S.c)).setCell ⟨w.heap.size, 6, none⟩ (.int .u64 wv)).setCell ⟨w.heap.size, 7, none⟩ (.bool dv)) l from fun x_ hx_ => (Blk.far (Blk.far (Blk.far (Blk.far (Blk.far (Blk.far (Blk.far (Blk.far (Blk.far (Blk.far (Blk.far (L1.out x_ hx_) (p := ⟨gC, 4, none⟩) (HLC.out x_ hx_) (.int .u64 r3.e)) (p := ⟨gC, 5, none⟩) (HLC.out x_ hx_) (.int .u64 r3.f)) (p := ⟨gC, 6, none⟩) (HLC.out x_ hx_) (.slice r3.L.A r3.L.n r3.L.c)) (p := ⟨gC, 7, none⟩) (HLC.out x_ hx_) (.slice r3.P.A r3.P.n r3.P.c)) (p := ⟨gC, 8, none⟩) (HLC.out x_ hx_) (.int .u64 r3.h)) (p := ⟨gC, 9, none⟩) (HLC.out x_ hx_) (.int .u64 r3.t)) (p := ⟨gC, 10, none⟩) (HLC.out x_ hx_) (.slice r3.K.A r3.K.n r3.K.c)) (p := ⟨gC, 11, none⟩) (HLC.out x_ hx_) (.slice r3.X.A r3.X.n r3.X.c)) (p := ⟨gC, 12, none⟩) (HLC.out x_ hx_) (.slice r3.S.A r3.S.n r3.S.c)) (p := ⟨w.heap.size, 6, none⟩) (HLX.out x_ hx_) (.int .u64 wv)) (p := ⟨w.heap.size, 7, none⟩) (HLX.out x_ hx_) (.bool dv)))
  have O1_ := Lib.hid (Only.set_ (Only.set_ (Only.set_ (Only.set_ (Only.set_ (Only.set_ (Only.set_ (Only.set_ (Only.set_ (Only.set_ (Only.set_ O1.out ⟨gC, 4, none⟩ (.inl (.inl (.inr (.inl rfl)))) (.int .u64 r3.e)) ⟨gC, 5, none⟩ (.inl (.inl (.inr (.inl rfl)))) (.int .u64 r3.f)) ⟨gC, 6, none⟩ (.inl (.inl (.inr (.inl rfl)))) (.slice r3.L.A r3.L.n r3.L.c)) ⟨gC, 7, none⟩ (.inl (.inl (.inr (.inl rfl)))) (.slice r3.P.A r3.P.n r3.P.c)) ⟨gC, 8, none⟩ (.inl (.inl (.inr (.inl rfl)))) (.int .u64 r3.h)) ⟨gC, 9, none⟩ (.inl (.inl (.inr (.inl rfl)))) (.int .u64 r3.t)) ⟨gC, 10, none⟩ (.inl (.inl (.inr (.inl rfl)))) (.slice r3.K.A r3.K.n r3.K.c)) ⟨gC, 11, none⟩ (.inl (.inl (.inr (.inl rfl)))) (.slice r3.X.A r3.X.n r3.X.c)) ⟨gC, 12, none⟩ (.inl (.inl (.inr (.inl rfl)))) (.slice r3.S.A r3.S.n r3.S.c)) ⟨w.heap.size, 6, none⟩ (.inr (Nat.le_refl _)) (.int .u64 wv)) ⟨w.heap.size, 7, none⟩ (.inr (Nat.le_refl _)) (.bool dv))
  clear C1 T1 X1 K1 R1 E1 Q1 F1 L1 O1
  have C1 := Lib.hid C1_.out
  have T1 := Lib.hid T1_.out
  have X1 := Lib.hid X1_.out
  have K1 := Lib.hid K1_.out
  have R1 := Lib.hid R1_.out
  have E1 := Lib.hid E1_.out
  have Q1 := Lib.hid Q1_.out
  have F1 := Lib.hid F1_.out
  have L1 := Lib.hid L1_.out
  have O1 := Lib.hid O1_.out
  clear C1_ T1_ X1_ K1_ R1_ E1_ Q1_ F1_ L1_ O1_
  generalize (((((((((((w3.setCell ⟨gC, 4, none⟩ (.int .u64 r3.e)).setCell ⟨gC, 5, none⟩ (.int .u64 r3.f)).setCell ⟨gC, 6, none⟩ (.slice r3.L.A r3.L.n r3.L.c)).setCell ⟨gC, 7, none⟩ (.slice r3.P.A r3.P.n r3.P.c)).setCell ⟨gC, 8, none⟩ (.int .u64 r3.h)).setCell ⟨gC, 9, none⟩ (.int .u64 r3.t)).setCell ⟨gC, 10, none⟩ (.slice r3.K.A r3.K.n r3.K.c)).setCell ⟨gC, 11, none⟩ (.slice r3.X.A r3.X.n r3.X.c)).setCell ⟨gC, 12, none⟩ (.slice r3.S.A r3.S.n r3.S.c)).setCell ⟨w.heap.size, 6, none⟩ (.int .u64 wv)).setCell ⟨w.heap.size, 7, none⟩ (.bool dv)) = V3 at C1 T1 X1 K1 R1 E1 Q1 F1 L1 O1 ⊢
  have hbV3 : base ≤ V3.heap.size := Nat.le_trans hbase O1.out.size
  obtain ⟨j0, hj0, hjz0, hjz1, hjz2⟩ := info_parts step_cell
  have SR := Lib.hid (And.intro hj0 (And.intro hjz0 (And.intro hjz1 hjz2)))
  clear hj0 hjz0 hjz1 hjz2
  have hzC3 := C1.out.lt
  have hzX3 := X1.out.lt
  have C1 := Lib.hid C1.out
  have hc := C1.out.cell
  have hcf := C1.out.frozen
  have hx := X1.out.cell
  go_wp2_with fail
  refine Zreg.begin_ (S := (fun w' => (∀ j, w'.cell? ⟨gC, j, none⟩ = (#[.func (.func B) #[] bs, .slice th.A th.n th.c, .slice sS.A sS.n sS.c, .slice sK.A sK.n sK.c, .int .u64 r3.e, .int .u64 r3.f, .slice r3.L.A r3.L.n r3.L.c, .slice r3.P.A r3.P.n r3.P.c, .int .u64 r3.h, .int .u64 r3.t, .slice r3.K.A r3.K.n r3.K.c, .slice r3.X.A r3.X.n r3.X.c, .slice r3.S.A r3.S.n r3.S.c] : Array Value)[j]?) ∧ (∀ j, w'.cell? ⟨w.heap.size, j, none⟩ = (#[.int .i64 i, .int .i64 a.d, .int .i64 a.ar, .int .i64 a.at_, .int .u64 a.old, .int .u64 a.new, .int .u64 wv, .bool dv] : Array Value)[j]?))) (zs := [12]) (by kernel_rfl) ?_
  show Zreg.After _ _ _ _ _ _ 13 #[false, false, false, false, false, false, false, false, false, false, false, false, false] _ _
  refine Zreg.takeP 0 34 (x := ?xc_0) rfl rfl (by kernel_rfl) (by kernel_rfl) (by kernel_rfl) (by kernel_rfl) (fun _ _ _ h => h) (.inr ⟨C1.out.cell, X1.out.cell⟩) (Or.inl ⟨by rfl, ?yc_0⟩) ?rc_0
  case yc_0 => (intro w _; go_simp <;> with_reducible rfl)
  simp only [List.setIfInBounds_toArray, List.set_cons_zero, List.set_cons_succ]
  refine Zreg.takeP 1 35 (x := ?xc_1) rfl rfl (by kernel_rfl) (by kernel_rfl) (by kernel_rfl) (by kernel_rfl) (fun _ _ _ h => h) (.inr ⟨C1.out.cell, X1.out.cell⟩) (Or.inl ⟨by rfl, ?yc_1⟩) ?rc_1
  case yc_1 => (intro w _; go_simp <;> with_reducible rfl)
  simp only [List.setIfInBounds_toArray, List.set_cons_zero, List.set_cons_succ]
  refine Zreg.takeP 2 36 (x := ?xc_2) rfl rfl (by kernel_rfl) (by kernel_rfl) (by kernel_rfl) (by kernel_rfl) (fun _ _ _ h => h) (.inr ⟨C1.out.cell, X1.out.cell⟩) (Or.inl ⟨by rfl, ?yc_2⟩) ?rc_2
  case yc_2 => (intro w _; go_simp <;> with_reducible rfl)
  simp only [List.setIfInBounds_toArray, List.set_cons_zero, List.set_cons_succ]
  refine Zreg.takeP 3 37 (x := ?xc_3) rfl rfl (by kernel_rfl) (by kernel_rfl) (by kernel_rfl) (by kernel_rfl) (fun _ _ _ h => h) (.inr ⟨C1.out.cell, X1.out.cell⟩) (Or.inl ⟨by rfl, ?yc_3⟩) ?rc_3
  case yc_3 => (intro w _; go_simp <;> with_reducible rfl)
  simp only [List.setIfInBounds_toArray, List.set_cons_zero, List.set_cons_succ]
  refine Zreg.takeP 4 38 (x := ?xc_4) rfl rfl (by kernel_rfl) (by kernel_rfl) (by kernel_rfl) (by kernel_rfl) (fun _ _ _ h => h) (.inr ⟨C1.out.cell, X1.out.cell⟩) (Or.inl ⟨by rfl, ?yc_4⟩) ?rc_4
  case yc_4 => (intro w _; go_simp <;> with_reducible rfl)
  simp only [List.setIfInBounds_toArray, List.set_cons_zero, List.set_cons_succ]
  refine Zreg.takeS 5 39 (x := ?xc_5) rfl rfl (by kernel_rfl) (by kernel_rfl) (by kernel_rfl) (by kernel_rfl) (by kernel_rfl) (by kernel_rfl) (fun _ _ _ h => h) (.inr ⟨C1.out.cell, X1.out.cell⟩) (Or.inl ⟨by rfl, ?yc_5⟩) ?rc_5
  case yc_5 => (intro w hSw; (try dsimp only at hSw); go_simp <;> with_reducible rfl)
  simp only [List.setIfInBounds_toArray, List.set_cons_zero, List.set_cons_succ]
  refine Zreg.takeS 6 40 (x := ?xc_6) rfl rfl (by kernel_rfl) (by kernel_rfl) (by kernel_rfl) (by kernel_rfl) (by kernel_rfl) (by kernel_rfl) (fun _ _ _ h => h) (.inr ⟨C1.out.cell, X1.out.cell⟩) (Or.inl ⟨by rfl, ?yc_6⟩) ?rc_6
  case yc_6 => (intro w hSw; (try dsimp only at hSw); go_simp <;> with_reducible rfl)
  simp only [List.setIfInBounds_toArray, List.set_cons_zero, List.set_cons_succ]
  refine Zreg.one 7 (by kernel_rfl) rfl rfl fun K hK => ?_
  go_simp
  refine hK.out _ _ (.inr ⟨(C1.out.alloc _).cell, (X1.out.alloc _).cell⟩) fun _ => ?_
  clear hK
  simp only [List.setIfInBounds_toArray, List.set_cons_zero, List.set_cons_succ]
  refine Zreg.one 8 (by kernel_rfl) rfl rfl fun K hK => ?_
  refine wp_app1 (.tmp 39) (.tmp 41) 28 rfl base 59 j0 _ 8 64 Try.underlying28 SR.out.1 SR.out.2.1 SR.out.2.2.1 SR.out.2.2.2 rfl (by decide) sS nS ys (by simp [Act.eval]) (Row.alloc R1.out _) V3.heap.size [.int .i64 i, .int .i64 a.d, .int .i64 a.ar, .int .i64 a.at_, .int .u64 a.old, .int .u64 a.new, .int .u64 wv, .bool dv] (by simp [Act.eval]) rfl (fun j u hj => (Blk.cell (blk_at rfl) j).trans (by simpa using hj)) (by simp [Value.oneCell']) (by omega) (by decide) (by simp; omega) ?_
  intro s1 w5 hr5 ho5
  clear hc hcf hx
  have C1_ := Lib.hid (Blk.only (C1.out.alloc (.cells #[.int .i64 i, .int .i64 a.d, .int .i64 a.ar, .int .i64 a.at_, .int .u64 a.old, .int .u64 a.new, .int .u64 wv, .bool dv] 59)).drew ho5 (fun hg => HRC.out _ hg rfl))
  have T1_ := Lib.hid (Blk.only (T1.out.alloc (.cells #[.int .i64 i, .int .i64 a.d, .int .i64 a.ar, .int .i64 a.at_, .int .u64 a.old, .int .u64 a.new, .int .u64 wv, .bool dv] 59)).drew ho5 (fun hg => Row.ne R1.out T1.out (by decide) _ hg rfl))
  have X1_ := Lib.hid (Blk.only (X1.out.alloc (.cells #[.int .i64 i, .int .i64 a.d, .int .i64 a.ar, .int .i64 a.at_, .int .u64 a.old, .int .u64 a.new, .int .u64 wv, .bool dv] 59)).drew ho5 (fun hg => HRX.out _ hg rfl))
  have K1_ := Lib.hid ((K1.out.alloc (.cells #[.int .i64 i, .int .i64 a.d, .int .i64 a.ar, .int .i64 a.at_, .int .u64 a.old, .int .u64 a.new, .int .u64 wv, .bool dv] 59)).drew.only ho5 (fun g hg hb => Row.ne_row R1.out K1.out (by decide) g hb g hg rfl))
  have Q1_ := Lib.hid (Blk.only (Q1.out.alloc (.cells #[.int .i64 i, .int .i64 a.d, .int .i64 a.ar, .int .i64 a.at_, .int .u64 a.old, .int .u64 a.new, .int .u64 wv, .bool dv] 59)).drew ho5 (fun hg => Row.ne R1.out Q1.out (by decide) _ hg rfl))
  have F1_ := Lib.hid ((F1.out.alloc (.cells #[.int .i64 i, .int .i64 a.d, .int .i64 a.ar, .int .i64 a.at_, .int .u64 a.old, .int .u64 a.new, .int .u64 wv, .bool dv] 59)).drew.only ho5 (fun g hg hb => Row.ne_row R1.out F1.out (by decide) g hb g hg rfl))
  have L1_ : Hid (Kept w5 l) := Lib.hid (fun x hx => Blk.only ((L1.out x hx).alloc (.cells #[.int .i64 i, .int .i64 a.d, .int .i64 a.ar, .int .i64 a.at_, .int .u64 a.old, .int .u64 a.new, .int .u64 wv, .bool dv] 59)).drew ho5 (fun hg => Row.ne R1.out (L1.out x hx) (Ne.symm (HSF.out x hx).2.2.2.2.1) _ hg rfl))
  have HES : Hid (∀ ar, la ar → ∀ ad, (r3.sl ar).A = some ad → ¬ bl sS ad.block) := Lib.hid (fun ar hl ad ha hb => by obtain ⟨ds, hd⟩ := R1.out.blk hb; exact Endw.ne E1.out hd (by decide) (by decide) ar hl ad ha rfl)
  have E1_ := Lib.hid ((E1.out.alloc (.cells #[.int .i64 i, .int .i64 a.d, .int .i64 a.ar, .int .i64 a.at_, .int .u64 a.old, .int .u64 a.new, .int .u64 wv, .bool dv] 59)).drew.only ho5 HES.out)
  have O1_ := Lib.hid ((O1.out.alloc (.cells #[.int .i64 i, .int .i64 a.d, .int .i64 a.ar, .int .i64 a.at_, .int .u64 a.old, .int .u64 a.new, .int .u64 wv, .bool dv] 59)).drew.next ho5 (fun k _ h => .inr (.inl h)))
  have R1_ := Lib.hid hr5
  clear hr5 ho5 HES C1 T1 X1 K1 Q1 F1 L1 E1 O1 R1
  have C1 := Lib.hid C1_.out
  have T1 := Lib.hid T1_.out
  have X1 := Lib.hid X1_.out
  have K1 := Lib.hid K1_.out
  have Q1 := Lib.hid Q1_.out
  have F1 := Lib.hid F1_.out
  have L1 := Lib.hid L1_.out
  have E1 := Lib.hid E1_.out
  have O1 := Lib.hid O1_.out
  have R1 := Lib.hid R1_.out
  clear C1_ T1_ X1_ K1_ Q1_ F1_ L1_ E1_ O1_ R1_
  have hc := C1.out.cell
  have hcf := C1.out.frozen
  refine hK.out _ _ (.inr ⟨C1.out.cell, X1.out.cell⟩) fun _ => ?_
  clear hK
  try simp only [Act.put, List.setIfInBounds_toArray, List.set_cons_zero, List.set_cons_succ]
  refine Zreg.takeP 9 43 (x := ?xc_9) rfl rfl (by kernel_rfl) (by kernel_rfl) (by kernel_rfl) (by kernel_rfl) (fun _ _ _ h => h) (.inr ⟨C1.out.cell, X1.out.cell⟩) (Or.inl ⟨by rfl, ?yc_9⟩) ?rc_9
  case yc_9 => (intro w _; go_simp <;> with_reducible rfl)
  simp only [List.setIfInBounds_toArray, List.set_cons_zero, List.set_cons_succ]
  refine Zreg.takeP 10 44 (x := ?xc_10) rfl rfl (by kernel_rfl) (by kernel_rfl) (by kernel_rfl) (by kernel_rfl) (fun _ _ _ h => h) (.inr ⟨C1.out.cell, X1.out.cell⟩) (Or.inl ⟨by rfl, ?yc_10⟩) ?rc_10
  case yc_10 => (intro w _; go_simp <;> with_reducible rfl)
  simp only [List.setIfInBounds_toArray, List.set_cons_zero, List.set_cons_succ]
  refine Zreg.takeP 11 45 (x := ?xc_11) rfl rfl (by kernel_rfl) (by kernel_rfl) (by kernel_rfl) (by kernel_rfl) (fun _ _ _ h => h) (.inr ⟨C1.out.cell, X1.out.cell⟩) (Or.inl ⟨by rfl, ?yc_11⟩) ?rc_11
  case yc_11 => (intro w _; go_simp <;> with_reducible rfl)
  simp only [List.setIfInBounds_toArray, List.set_cons_zero, List.set_cons_succ]
  refine Zreg.one 12 (by kernel_rfl) rfl rfl fun K hK => ?_
  go_simp
  refine hK.out _ _ (.inl (by kernel_rfl)) fun _ => ?_
  clear hK
  simp only [List.setIfInBounds_toArray, List.set_cons_zero, List.set_cons_succ]
  refine Zreg.done (by kernel_rfl) ?_ _
  have HRC1 := Lib.hid (Row.ne R1.out C1.out (by decide))
  clear hc hcf
  have C1_ : Hid (Blk (w5.setCell ⟨gC, 2, none⟩ (.slice s1.A s1.n s1.c)) gC 102 #[.func (.func B) #[] bs, .slice th.A th.n th.c, .slice s1.A s1.n s1.c, .slice sK.A sK.n sK.c, .int .u64 r3.e, .int .u64 r3.f, .slice r3.L.A r3.L.n r3.L.c, .slice r3.P.A r3.P.n r3.P.c, .int .u64 r3.h, .int .u64 r3.t, .slice r3.K.A r3.K.n r3.K.c, .slice r3.X.A r3.X.n r3.X.c, .slice r3.S.A r3.S.n r3.S.c]) := Lib.hid (by have h_ := (Blk.set_ C1.out 2 (.slice s1.A s1.n s1.c)); simpa only [List.setIfInBounds_toArray, List.set_cons_zero, List.set_cons_succ] using h_)
  have T1_ := Lib.hid (Blk.far T1.out (p := ⟨gC, 2, none⟩) hTC (.slice s1.A s1.n s1.c))
  have X1_ := Lib.hid (Blk.far X1.out (p := ⟨gC, 2, none⟩) hXC (.slice s1.A s1.n s1.c))
  have K1_ := Lib.hid (Row.kept (w' := (w5.setCell ⟨gC, 2, none⟩ (.slice s1.A s1.n s1.c))) K1.out (fun g_ hg_ => Below.heap_setCell _ _ _ _ (HKC.out g_ hg_)))
  have R1_ := Lib.hid (Row.kept (w' := (w5.setCell ⟨gC, 2, none⟩ (.slice s1.A s1.n s1.c))) R1.out (fun g_ hg_ => Below.heap_setCell _ _ _ _ (HRC1.out g_ hg_)))
  have E1_ := Lib.hid (Endw.kept (w' := (w5.setCell ⟨gC, 2, none⟩ (.slice s1.A s1.n s1.c))) E1.out (fun ar hl_ ad_ ha_ => Below.heap_setCell _ _ _ _ (HEC.out ar hl_ ad_ ha_)))
  have Q1_ := Lib.hid (Blk.far Q1.out (p := ⟨gC, 2, none⟩) hPC (.slice s1.A s1.n s1.c))
  have F1_ := Lib.hid (Row.kept (w' := (w5.setCell ⟨gC, 2, none⟩ (.slice s1.A s1.n s1.c))) F1.out (fun g_ hg_ => Below.heap_setCell _ _ _ _ (HFC.out g_ hg_)))
  have L1_ := Lib.hid (show Kept (w5.setCell ⟨gC, 2, none⟩ (.slice s1.A s1.n s1.c)) l from fun x_ hx_ => (Blk.far (L1.out x_ hx_) (p := ⟨gC, 2, none⟩) (HLC.out x_ hx_) (.slice s1.A s1.n s1.c)))
  have O1_ := Lib.hid (Only.set_ O1.out ⟨gC, 2, none⟩ (.inl (.inl (.inr (.inl rfl)))) (.slice s1.A s1.n s1.c))
  clear C1 T1 X1 K1 R1 E1 Q1 F1 L1 O1
  have C1 := Lib.hid C1_.out
  have T1 := Lib.hid T1_.out
  have X1 := Lib.hid X1_.out
  have K1 := Lib.hid K1_.out
  have R1 := Lib.hid R1_.out
  have E1 := Lib.hid E1_.out
  have Q1 := Lib.hid Q1_.out
  have F1 := Lib.hid F1_.out
  have L1 := Lib.hid L1_.out
  have O1 := Lib.hid O1_.out
  clear C1_ T1_ X1_ K1_ R1_ E1_ Q1_ F1_ L1_ O1_
  generalize (w5.setCell ⟨gC, 2, none⟩ (.slice s1.A s1.n s1.c)) = V5 at C1 T1 X1 K1 R1 E1 Q1 F1 L1 O1 ⊢
  have hct := (T1.out.cell (o + 1)).trans HE1.out
  have hxx := X1.out.cell
  have hm := method_next ⟨P, 0, none⟩
  go_wp2_with fail
  have hbV5 : base ≤ V5.drew.heap.size := Nat.le_trans hbase O1.out.size
  have HSZ : Hid (w.heap.size ≤ V5.drew.heap.size) := Lib.hid O1.out.size
  refine Zreg.begin_ (S := (fun w' => w'.cell? ⟨gT, o + 1, none⟩ = some (.iface 123 (.pointer (some ⟨P, 0, none⟩))) ∧ (∀ j, w'.cell? ⟨w.heap.size, j, none⟩ = (#[.int .i64 i, .int .i64 a.d, .int .i64 a.ar, .int .i64 a.at_, .int .u64 a.old, .int .u64 a.new, .int .u64 wv, .bool dv] : Array Value)[j]?))) (zs := [16]) (by kernel_rfl) ?_
  show Zreg.After _ _ _ _ _ _ 20 #[false, false, false, false, false, false, false, false, false, false, false, false, false, false, false, false, false, false, false, false] _ _
  refine Zreg.takeP 0 47 (x := ?xd_0) rfl rfl (by kernel_rfl) (by kernel_rfl) (by kernel_rfl) (by kernel_rfl) (fun _ _ _ h => h) (.inr ⟨(T1.out.cell _).trans HE1.out, X1.out.cell⟩) (Or.inl ⟨by rfl, ?yd_0⟩) ?rd_0
  case yd_0 => (intro w _; go_simp <;> with_reducible rfl)
  simp only [List.setIfInBounds_toArray, List.set_cons_zero, List.set_cons_succ]
  refine Zreg.takeP 1 48 (x := ?xd_1) rfl rfl (by kernel_rfl) (by kernel_rfl) (by kernel_rfl) (by kernel_rfl) (fun _ _ _ h => h) (.inr ⟨(T1.out.cell _).trans HE1.out, X1.out.cell⟩) (Or.inl ⟨by rfl, ?yd_1⟩) ?rd_1
  case yd_1 => (intro w _; go_simp <;> with_reducible rfl)
  simp only [List.setIfInBounds_toArray, List.set_cons_zero, List.set_cons_succ]
  refine Zreg.takeP 2 49 (x := ?xd_2) rfl rfl (by kernel_rfl) (by kernel_rfl) (by kernel_rfl) (by kernel_rfl) (fun _ _ _ h => h) (.inr ⟨(T1.out.cell _).trans HE1.out, X1.out.cell⟩) (Or.inl ⟨by rfl, ?yd_2⟩) ?rd_2
  case yd_2 => (intro w _; go_simp <;> with_reducible rfl)
  simp only [List.setIfInBounds_toArray, List.set_cons_zero, List.set_cons_succ]
  refine Zreg.takeP 3 50 (x := ?xd_3) rfl rfl (by kernel_rfl) (by kernel_rfl) (by kernel_rfl) (by kernel_rfl) (fun _ _ _ h => h) (.inr ⟨(T1.out.cell _).trans HE1.out, X1.out.cell⟩) (Or.inl ⟨by rfl, ?yd_3⟩) ?rd_3
  case yd_3 => (intro w _; go_simp <;> with_reducible rfl)
  simp only [List.setIfInBounds_toArray, List.set_cons_zero, List.set_cons_succ]
  refine Zreg.takeP 4 51 (x := ?xd_4) rfl rfl (by kernel_rfl) (by kernel_rfl) (by kernel_rfl) (by kernel_rfl) (fun _ _ _ h => h) (.inr ⟨(T1.out.cell _).trans HE1.out, X1.out.cell⟩) (Or.inl ⟨by rfl, ?yd_4⟩) ?rd_4
  case yd_4 => (intro w _; go_simp <;> with_reducible rfl)
  simp only [List.setIfInBounds_toArray, List.set_cons_zero, List.set_cons_succ]
  refine Zreg.takeS 5 52 (x := ?xd_5) rfl rfl (by kernel_rfl) (by kernel_rfl) (by kernel_rfl) (by kernel_rfl) (by kernel_rfl) (by kernel_rfl) (fun _ _ _ h => h) (.inr ⟨(T1.out.cell _).trans HE1.out, X1.out.cell⟩) (Or.inl ⟨by rfl, ?yd_5⟩) ?rd_5
  case yd_5 => (intro w hSw; (try dsimp only at hSw); go_simp <;> with_reducible rfl)
  simp only [List.setIfInBounds_toArray, List.set_cons_zero, List.set_cons_succ]
  refine Zreg.takeP 6 53 (x := ?xd_6) rfl rfl (by kernel_rfl) (by kernel_rfl) (by kernel_rfl) (by kernel_rfl) (fun _ _ _ h => h) (.inr ⟨(T1.out.cell _).trans HE1.out, X1.out.cell⟩) (Or.inl ⟨by rfl, ?yd_6⟩) ?rd_6
  case yd_6 => (intro w _; go_simp <;> with_reducible rfl)
  simp only [List.setIfInBounds_toArray, List.set_cons_zero, List.set_cons_succ]
  refine Zreg.takeS 7 54 (x := ?xd_7) rfl rfl (by kernel_rfl) (by kernel_rfl) (by kernel_rfl) (by kernel_rfl) (by kernel_rfl) (by kernel_rfl) (fun _ _ _ h => h) (.inr ⟨(T1.out.cell _).trans HE1.out, X1.out.cell⟩) (Or.inl ⟨by rfl, ?yd_7⟩) ?rd_7
  case yd_7 => (intro w hSw; (try dsimp only at hSw); go_simp <;> with_reducible rfl)
  simp only [List.setIfInBounds_toArray, List.set_cons_zero, List.set_cons_succ]
  refine Zreg.takeP 8 55 (x := ?xd_8) rfl rfl (by kernel_rfl) (by kernel_rfl) (by kernel_rfl) (by kernel_rfl) (fun _ _ _ h => h) (.inr ⟨(T1.out.cell _).trans HE1.out, X1.out.cell⟩) (Or.inl ⟨by rfl, ?yd_8⟩) ?rd_8
  case yd_8 => (intro w _; go_simp <;> with_reducible rfl)
  simp only [List.setIfInBounds_toArray, List.set_cons_zero, List.set_cons_succ]
  refine Zreg.takeS 9 56 (x := ?xd_9) rfl rfl (by kernel_rfl) (by kernel_rfl) (by kernel_rfl) (by kernel_rfl) (by kernel_rfl) (by kernel_rfl) (fun _ _ _ h => h) (.inr ⟨(T1.out.cell _).trans HE1.out, X1.out.cell⟩) (Or.inl ⟨by rfl, ?yd_9⟩) ?rd_9
  case yd_9 => (intro w hSw; (try dsimp only at hSw); go_simp <;> with_reducible rfl)
  simp only [List.setIfInBounds_toArray, List.set_cons_zero, List.set_cons_succ]
  refine Zreg.one 10 (by kernel_rfl) rfl rfl fun K hK => ?_
  go_simp
  go_at_call 143
  refine (nextg_ask V5.drew base P F cs l p q fs a2 wv dv HCS.out HME.out Q1.out F1.out L1.out HSF.out HFN.out HG2.out hbV5 HNX.out).mono ?_
  rintro e w6 ⟨q1, rfl, hov, hfr, ho6, hw6⟩
  have HNO : Hid (∀ (g : Nat) (t : TypeId) (cs : Array Value), Blk V5.drew g t cs → t ≠ 126 → t ≠ 194 → ¬ (g = P ∨ bl q g)) := Lib.hid (fun g t cs hg h1 h2 e => by
    rcases e with e | e
    · exact Blk.ne hg Q1.out.drew h1 e
    · exact Row.ne F1.out.drew hg (Ne.symm h2) _ e rfl)
  have C1_ := Lib.hid (Blk.only C1.out.drew ho6 (HNO.out _ _ _ C1.out.drew (by decide) (by decide)))
  have T1_ := Lib.hid (Blk.only T1.out.drew ho6 (HNO.out _ _ _ T1.out.drew (by decide) (by decide)))
  have X1_ := Lib.hid (Blk.only X1.out.drew ho6 (HNO.out _ _ _ X1.out.drew (by decide) (by decide)))
  have K1_ := Lib.hid (K1.out.drew.only ho6 (fun g hg => by obtain ⟨ds, hd⟩ := Row.blk K1.out.drew hg; exact HNO.out _ _ _ hd (by decide) (by decide)))
  have R1_ := Lib.hid (R1.out.drew.only ho6 (fun g hg => by obtain ⟨ds, hd⟩ := Row.blk R1.out.drew hg; exact HNO.out _ _ _ hd (by decide) (by decide)))
  have E1_ := Lib.hid (E1.out.drew.only ho6 (fun ar hl ad ha e => by
    rcases e with e | e
    · exact Endw.ne E1.out Q1.out (by decide) (by decide) ar hl ad ha e
    · obtain ⟨ds, hd⟩ := F1.out.blk e
      exact Endw.ne E1.out hd (by decide) (by decide) ar hl ad ha rfl))
  have O1_ := Lib.hid (O1.out.drew.next ho6 (fun k _ h => (by
    rcases h with h | h
    · exact .inl (.inr (.inr h))
    · exact .inr (.inr (.inr h)))))
  have Q1_ := Lib.hid hov
  have F1_ := Lib.hid hfr
  have L1_ : Hid (Kept w6 l) := Lib.hid (fun x hx => Blk.only (L1.out x hx).drew ho6 (HNO.out _ _ _ (L1.out x hx).drew (HSF.out x hx).1 (HSF.out x hx).2.1))
  have HW6 := Lib.hid hw6
  clear hov ho6 hfr hw6 C1 T1 X1 K1 R1 E1 O1 Q1 F1 L1 HNO hct hxx
  have C1 := Lib.hid C1_.out
  have T1 := Lib.hid T1_.out
  have X1 := Lib.hid X1_.out
  have K1 := Lib.hid K1_.out
  have R1 := Lib.hid R1_.out
  have E1 := Lib.hid E1_.out
  have O1 := Lib.hid O1_.out
  have Q1 := Lib.hid Q1_.out
  have F1 := Lib.hid F1_.out
  have L1 := Lib.hid L1_.out
  clear C1_ T1_ X1_ K1_ R1_ E1_ O1_ Q1_ F1_ L1_
  have htf := T1.out.frozen
  have ht3 := (T1.out.cell (o + 3)).trans HE3.out
  have ht4 := (T1.out.cell (o + 4)).trans HE4.out
  have ht5 := (T1.out.cell (o + 5)).trans HE5.out
  have ht6 := (T1.out.cell (o + 6)).trans HE6.out
  have ht7 := (T1.out.cell (o + 7)).trans HE7.out
  have ht8 := (T1.out.cell (o + 8)).trans HE8.out
  refine hK.out _ _ (.inr ⟨(T1.out.cell _).trans HE1.out, X1.out.cell⟩) fun _ => ?_
  clear hK
  simp only [List.setIfInBounds_toArray, List.set_cons_zero, List.set_cons_succ]
  refine Zreg.takeP 11 46 (x := ?xd_11) rfl rfl (by kernel_rfl) (by kernel_rfl) (by kernel_rfl) (by kernel_rfl) (fun _ _ _ h => h) (.inr ⟨(T1.out.cell _).trans HE1.out, X1.out.cell⟩) (Or.inl ⟨by rfl, ?yd_11⟩) ?rd_11
  case yd_11 => (intro w _; go_simp <;> with_reducible rfl)
  simp only [List.setIfInBounds_toArray, List.set_cons_zero, List.set_cons_succ]
  refine Zreg.takeP 12 58 (x := ?xd_12) rfl rfl (by kernel_rfl) (by kernel_rfl) (by kernel_rfl) (by kernel_rfl) (fun _ _ _ h => h) (.inr ⟨(T1.out.cell _).trans HE1.out, X1.out.cell⟩) (Or.inl ⟨by rfl, ?yd_12⟩) ?rd_12
  case yd_12 => (intro w _; go_simp <;> with_reducible rfl)
  simp only [List.setIfInBounds_toArray, List.set_cons_zero, List.set_cons_succ]
  refine Zreg.takeP 13 59 (x := ?xd_13) rfl rfl (by kernel_rfl) (by kernel_rfl) (by kernel_rfl) (by kernel_rfl) (fun _ _ _ h => h) (.inr ⟨(T1.out.cell _).trans HE1.out, X1.out.cell⟩) (Or.inl ⟨by rfl, ?yd_13⟩) ?rd_13
  case yd_13 => (intro w _; go_simp <;> with_reducible rfl)
  simp only [List.setIfInBounds_toArray, List.set_cons_zero, List.set_cons_succ]
  refine Zreg.takeP 14 60 (x := ?xd_14) rfl rfl (by kernel_rfl) (by kernel_rfl) (by kernel_rfl) (by kernel_rfl) (fun _ _ _ h => h) (.inr ⟨(T1.out.cell _).trans HE1.out, X1.out.cell⟩) (Or.inl ⟨by rfl, ?yd_14⟩) ?rd_14
  case yd_14 => (intro w _; go_simp <;> with_reducible rfl)
  simp only [List.setIfInBounds_toArray, List.set_cons_zero, List.set_cons_succ]
  refine Zreg.takeP 15 61 (x := ?xd_15) rfl rfl (by kernel_rfl) (by kernel_rfl) (by kernel_rfl) (by kernel_rfl) (fun _ _ _ h => h) (.inr ⟨(T1.out.cell _).trans HE1.out, X1.out.cell⟩) (Or.inl ⟨by rfl, ?yd_15⟩) ?rd_15
  case yd_15 => (intro w _; go_simp <;> with_reducible rfl)
  simp only [List.setIfInBounds_toArray, List.set_cons_zero, List.set_cons_succ]
  refine Zreg.one 16 (by kernel_rfl) rfl rfl fun K hK => ?_
  go_simp
  refine hK.out _ _ (.inl (by kernel_rfl)) fun _ => ?_
  clear hK
  simp only [List.setIfInBounds_toArray, List.set_cons_zero, List.set_cons_succ]
  refine Zreg.takeP 17 62 (x := ?xd_17) rfl rfl (by kernel_rfl) (by kernel_rfl) (by kernel_rfl) (by kernel_rfl) (fun _ _ _ h => h) (.inl (by kernel_rfl)) (Or.inl ⟨by rfl, ?yd_17⟩) ?rd_17
  case yd_17 => (intro w _; go_simp <;> with_reducible rfl)
  simp only [List.setIfInBounds_toArray, List.set_cons_zero, List.set_cons_succ]
  refine Zreg.takeP 18 63 (x := ?xd_18) rfl rfl (by kernel_rfl) (by kernel_rfl) (by kernel_rfl) (by kernel_rfl) (fun _ _ _ h => h) (.inl (by kernel_rfl)) (Or.inl ⟨by rfl, ?yd_18⟩) ?rd_18
  case yd_18 => (intro w _; go_simp <;> with_reducible rfl)
  simp only [List.setIfInBounds_toArray, List.set_cons_zero, List.set_cons_succ]
  refine Zreg.one 19 (by kernel_rfl) rfl rfl fun K hK => ?_
  go_simp
  refine hK.out _ _ (.inl (by kernel_rfl)) fun _ => ?_
  clear hK
  simp only [List.setIfInBounds_toArray, List.set_cons_zero, List.set_cons_succ]
  refine Zreg.done (by kernel_rfl) ?_ _
  have HKT := Lib.hid (Row.ne K1.out T1.out (by decide))
  have HRT := Lib.hid (Row.ne R1.out T1.out (by decide))
  have HET := Lib.hid (Endw.ne E1.out T1.out (by decide) (by decide))
  clear htf ht3 ht4 ht5 ht6 ht7 ht8 hm
  have HFT := Lib.hid (Row.ne F1.out T1.out (by decide))
  have C1_ := Lib.hid (Blk.far (Blk.far (Blk.far (Blk.far (Blk.far (Blk.far C1.out (p := ⟨gT, (o + 3), none⟩) hCT (.int .i64 a2.d)) (p := ⟨gT, (o + 4), none⟩) hCT (.int .i64 a2.ar)) (p := ⟨gT, (o + 5), none⟩) hCT (.int .i64 a2.at_)) (p := ⟨gT, (o + 6), none⟩) hCT (.int .u64 a2.old)) (p := ⟨gT, (o + 7), none⟩) hCT (.int .u64 a2.new)) (p := ⟨gT, (o + 8), none⟩) hCT (.bool true))
  have T1_ := Lib.hid (Blk.set_ (Blk.set_ (Blk.set_ (Blk.set_ (Blk.set_ (Blk.set_ T1.out (o + 3) (.int .i64 a2.d)) (o + 4) (.int .i64 a2.ar)) (o + 5) (.int .i64 a2.at_)) (o + 6) (.int .u64 a2.old)) (o + 7) (.int .u64 a2.new)) (o + 8) (.bool true))
  have K1_ := Lib.hid (Row.kept (w' := ((((((w6.setCell ⟨gT, (o + 3), none⟩ (.int .i64 a2.d)).setCell ⟨gT, (o + 4), none⟩ (.int .i64 a2.ar)).setCell ⟨gT, (o + 5), none⟩ (.int .i64 a2.at_)).setCell ⟨gT, (o + 6), none⟩ (.int .u64 a2.old)).setCell ⟨gT, (o + 7), none⟩ (.int .u64 a2.new)).setCell ⟨gT, (o + 8), none⟩ (.bool true))) (Row.kept (w' := (((((w6.setCell ⟨gT, (o + 3), none⟩ (.int .i64 a2.d)).setCell ⟨gT, (o + 4), none⟩ (.int .i64 a2.ar)).setCell ⟨gT, (o + 5), none⟩ (.int .i64 a2.at_)).setCell ⟨gT, (o + 6), none⟩ (.int .u64 a2.old)).setCell ⟨gT, (o + 7), none⟩ (.int .u64 a2.new))) (Row.kept (w' := ((((w6.setCell ⟨gT, (o + 3), none⟩ (.int .i64 a2.d)).setCell ⟨gT, (o + 4), none⟩ (.int .i64 a2.ar)).setCell ⟨gT, (o + 5), none⟩ (.int .i64 a2.at_)).setCell ⟨gT, (o + 6), none⟩ (.int .u64 a2.old))) (Row.kept (w' := (((w6.setCell ⟨gT, (o + 3), none⟩ (.int .i64 a2.d)).setCell ⟨gT, (o + 4), none⟩ (.int .i64 a2.ar)).setCell ⟨gT, (o + 5), none⟩ (.int .i64 a2.at_))) (Row.kept (w' := ((w6.setCell ⟨gT, (o + 3), none⟩ (.int .i64 a2.d)).setCell ⟨gT, (o + 4), none⟩ (.int .i64 a2.ar))) (Row.kept (w' := (w6.setCell ⟨gT, (o + 3), none⟩ (.int .i64 a2.d))) K1.out (fun g_ hg_ => Below.heap_setCell _ _ _ _ (HKT.out g_ hg_))) (fun g_ hg_ => Below.heap_setCell _ _ _ _ (HKT.out g_ hg_))) (fun g_ hg_ => Below.heap_setCell _ _ _ _ (HKT.out g_ hg_))) (fun g_ hg_ => Below.heap_setCell _ _ _ _ (HKT.out g_ hg_))) (fun g_ hg_ => Below.heap_setCell _ _ _ _ (HKT.out g_ hg_))) (fun g_ hg_ => Below.heap_setCell _ _ _ _ (HKT.out g_ hg_)))
  have R1_ := Lib.hid (Row.kept (w' := ((((((w6.setCell ⟨gT, (o + 3), none⟩ (.int .i64 a2.d)).setCell ⟨gT, (o + 4), none⟩ (.int .i64 a2.ar)).setCell ⟨gT, (o + 5), none⟩ (.int .i64 a2.at_)).setCell ⟨gT, (o + 6), none⟩ (.int .u64 a2.old)).setCell ⟨gT, (o + 7), none⟩ (.int .u64 a2.new)).setCell ⟨gT, (o + 8), none⟩ (.bool true))) (Row.kept (w' := (((((w6.setCell ⟨gT, (o + 3), none⟩ (.int .i64 a2.d)).setCell ⟨gT, (o + 4), none⟩ (.int .i64 a2.ar)).setCell ⟨gT, (o + 5), none⟩ (.int .i64 a2.at_)).setCell ⟨gT, (o + 6), none⟩ (.int .u64 a2.old)).setCell ⟨gT, (o + 7), none⟩ (.int .u64 a2.new))) (Row.kept (w' := ((((w6.setCell ⟨gT, (o + 3), none⟩ (.int .i64 a2.d)).setCell ⟨gT, (o + 4), none⟩ (.int .i64 a2.ar)).setCell ⟨gT, (o + 5), none⟩ (.int .i64 a2.at_)).setCell ⟨gT, (o + 6), none⟩ (.int .u64 a2.old))) (Row.kept (w' := (((w6.setCell ⟨gT, (o + 3), none⟩ (.int .i64 a2.d)).setCell ⟨gT, (o + 4), none⟩ (.int .i64 a2.ar)).setCell ⟨gT, (o + 5), none⟩ (.int .i64 a2.at_))) (Row.kept (w' := ((w6.setCell ⟨gT, (o + 3), none⟩ (.int .i64 a2.d)).setCell ⟨gT, (o + 4), none⟩ (.int .i64 a2.ar))) (Row.kept (w' := (w6.setCell ⟨gT, (o + 3), none⟩ (.int .i64 a2.d))) R1.out (fun g_ hg_ => Below.heap_setCell _ _ _ _ (HRT.out g_ hg_))) (fun g_ hg_ => Below.heap_setCell _ _ _ _ (HRT.out g_ hg_))) (fun g_ hg_ => Below.heap_setCell _ _ _ _ (HRT.out g_ hg_))) (fun g_ hg_ => Below.heap_setCell _ _ _ _ (HRT.out g_ hg_))) (fun g_ hg_ => Below.heap_setCell _ _ _ _ (HRT.out g_ hg_))) (fun g_ hg_ => Below.heap_setCell _ _ _ _ (HRT.out g_ hg_)))
  have E1_ := Lib.hid (Endw.kept (w' := ((((((w6.setCell ⟨gT, (o + 3), none⟩ (.int .i64 a2.d)).setCell ⟨gT, (o + 4), none⟩ (.int .i64 a2.ar)).setCell ⟨gT, (o + 5), none⟩ (.int .i64 a2.at_)).setCell ⟨gT, (o + 6), none⟩ (.int .u64 a2.old)).setCell ⟨gT, (o + 7), none⟩ (.int .u64 a2.new)).setCell ⟨gT, (o + 8), none⟩ (.bool true))) (Endw.kept (w' := (((((w6.setCell ⟨gT, (o + 3), none⟩ (.int .i64 a2.d)).setCell ⟨gT, (o + 4), none⟩ (.int .i64 a2.ar)).setCell ⟨gT, (o + 5), none⟩ (.int .i64 a2.at_)).setCell ⟨gT, (o + 6), none⟩ (.int .u64 a2.old)).setCell ⟨gT, (o + 7), none⟩ (.int .u64 a2.new))) (Endw.kept (w' := ((((w6.setCell ⟨gT, (o + 3), none⟩ (.int .i64 a2.d)).setCell ⟨gT, (o + 4), none⟩ (.int .i64 a2.ar)).setCell ⟨gT, (o + 5), none⟩ (.int .i64 a2.at_)).setCell ⟨gT, (o + 6), none⟩ (.int .u64 a2.old))) (Endw.kept (w' := (((w6.setCell ⟨gT, (o + 3), none⟩ (.int .i64 a2.d)).setCell ⟨gT, (o + 4), none⟩ (.int .i64 a2.ar)).setCell ⟨gT, (o + 5), none⟩ (.int .i64 a2.at_))) (Endw.kept (w' := ((w6.setCell ⟨gT, (o + 3), none⟩ (.int .i64 a2.d)).setCell ⟨gT, (o + 4), none⟩ (.int .i64 a2.ar))) (Endw.kept (w' := (w6.setCell ⟨gT, (o + 3), none⟩ (.int .i64 a2.d))) E1.out (fun ar hl_ ad_ ha_ => Below.heap_setCell _ _ _ _ (HET.out ar hl_ ad_ ha_))) (fun ar hl_ ad_ ha_ => Below.heap_setCell _ _ _ _ (HET.out ar hl_ ad_ ha_))) (fun ar hl_ ad_ ha_ => Below.heap_setCell _ _ _ _ (HET.out ar hl_ ad_ ha_))) (fun ar hl_ ad_ ha_ => Below.heap_setCell _ _ _ _ (HET.out ar hl_ ad_ ha_))) (fun ar hl_ ad_ ha_ => Below.heap_setCell _ _ _ _ (HET.out ar hl_ ad_ ha_))) (fun ar hl_ ad_ ha_ => Below.heap_setCell _ _ _ _ (HET.out ar hl_ ad_ ha_)))
  have Q1_ := Lib.hid (Blk.far (Blk.far (Blk.far (Blk.far (Blk.far (Blk.far Q1.out (p := ⟨gT, (o + 3), none⟩) hPT (.int .i64 a2.d)) (p := ⟨gT, (o + 4), none⟩) hPT (.int .i64 a2.ar)) (p := ⟨gT, (o + 5), none⟩) hPT (.int .i64 a2.at_)) (p := ⟨gT, (o + 6), none⟩) hPT (.int .u64 a2.old)) (p := ⟨gT, (o + 7), none⟩) hPT (.int .u64 a2.new)) (p := ⟨gT, (o + 8), none⟩) hPT (.bool true))
  have F1_ := Lib.hid (Row.kept (w' := ((((((w6.setCell ⟨gT, (o + 3), none⟩ (.int .i64 a2.d)).setCell ⟨gT, (o + 4), none⟩ (.int .i64 a2.ar)).setCell ⟨gT, (o + 5), none⟩ (.int .i64 a2.at_)).setCell ⟨gT, (o + 6), none⟩ (.int .u64 a2.old)).setCell ⟨gT, (o + 7), none⟩ (.int .u64 a2.new)).setCell ⟨gT, (o + 8), none⟩ (.bool true))) (Row.kept (w' := (((((w6.setCell ⟨gT, (o + 3), none⟩ (.int .i64 a2.d)).setCell ⟨gT, (o + 4), none⟩ (.int .i64 a2.ar)).setCell ⟨gT, (o + 5), none⟩ (.int .i64 a2.at_)).setCell ⟨gT, (o + 6), none⟩ (.int .u64 a2.old)).setCell ⟨gT, (o + 7), none⟩ (.int .u64 a2.new))) (Row.kept (w' := ((((w6.setCell ⟨gT, (o + 3), none⟩ (.int .i64 a2.d)).setCell ⟨gT, (o + 4), none⟩ (.int .i64 a2.ar)).setCell ⟨gT, (o + 5), none⟩ (.int .i64 a2.at_)).setCell ⟨gT, (o + 6), none⟩ (.int .u64 a2.old))) (Row.kept (w' := (((w6.setCell ⟨gT, (o + 3), none⟩ (.int .i64 a2.d)).setCell ⟨gT, (o + 4), none⟩ (.int .i64 a2.ar)).setCell ⟨gT, (o + 5), none⟩ (.int .i64 a2.at_))) (Row.kept (w' := ((w6.setCell ⟨gT, (o + 3), none⟩ (.int .i64 a2.d)).setCell ⟨gT, (o + 4), none⟩ (.int .i64 a2.ar))) (Row.kept (w' := (w6.setCell ⟨gT, (o + 3), none⟩ (.int .i64 a2.d))) F1.out (fun g_ hg_ => Below.heap_setCell _ _ _ _ (HFT.out g_ hg_))) (fun g_ hg_ => Below.heap_setCell _ _ _ _ (HFT.out g_ hg_))) (fun g_ hg_ => Below.heap_setCell _ _ _ _ (HFT.out g_ hg_))) (fun g_ hg_ => Below.heap_setCell _ _ _ _ (HFT.out g_ hg_))) (fun g_ hg_ => Below.heap_setCell _ _ _ _ (HFT.out g_ hg_))) (fun g_ hg_ => Below.heap_setCell _ _ _ _ (HFT.out g_ hg_)))
  have L1_ := Lib.hid (show Kept ((((((w6.setCell ⟨gT, (o + 3), none⟩ (.int .i64 a2.d)).setCell ⟨gT, (o + 4), none⟩ (.int .i64 a2.ar)).setCell ⟨gT, (o + 5), none⟩ (.int .i64 a2.at_)).setCell ⟨gT, (o + 6), none⟩ (.int .u64 a2.old)).setCell ⟨gT, (o + 7), none⟩ (.int .u64 a2.new)).setCell ⟨gT, (o + 8), none⟩ (.bool true)) l from fun x_ hx_ => (Blk.far (Blk.far (Blk.far (Blk.far (Blk.far (Blk.far (L1.out x_ hx_) (p := ⟨gT, (o + 3), none⟩) (HLT.out x_ hx_) (.int .i64 a2.d)) (p := ⟨gT, (o + 4), none⟩) (HLT.out x_ hx_) (.int .i64 a2.ar)) (p := ⟨gT, (o + 5), none⟩) (HLT.out x_ hx_) (.int .i64 a2.at_)) (p := ⟨gT, (o + 6), none⟩) (HLT.out x_ hx_) (.int .u64 a2.old)) (p := ⟨gT, (o + 7), none⟩) (HLT.out x_ hx_) (.int .u64 a2.new)) (p := ⟨gT, (o + 8), none⟩) (HLT.out x_ hx_) (.bool true)))
  have O1_ := Lib.hid (Only.set_ (Only.set_ (Only.set_ (Only.set_ (Only.set_ (Only.set_ O1.out ⟨gT, (o + 3), none⟩ (.inl (.inl (.inl rfl))) (.int .i64 a2.d)) ⟨gT, (o + 4), none⟩ (.inl (.inl (.inl rfl))) (.int .i64 a2.ar)) ⟨gT, (o + 5), none⟩ (.inl (.inl (.inl rfl))) (.int .i64 a2.at_)) ⟨gT, (o + 6), none⟩ (.inl (.inl (.inl rfl))) (.int .u64 a2.old)) ⟨gT, (o + 7), none⟩ (.inl (.inl (.inl rfl))) (.int .u64 a2.new)) ⟨gT, (o + 8), none⟩ (.inl (.inl (.inl rfl))) (.bool true))
  clear C1 T1 K1 R1 E1 Q1 F1 L1 O1
  have C1 := Lib.hid C1_.out
  have T1 := Lib.hid T1_.out
  have K1 := Lib.hid K1_.out
  have R1 := Lib.hid R1_.out
  have E1 := Lib.hid E1_.out
  have Q1 := Lib.hid Q1_.out
  have F1 := Lib.hid F1_.out
  have L1 := Lib.hid L1_.out
  have O1 := Lib.hid O1_.out
  clear C1_ T1_ K1_ R1_ E1_ Q1_ F1_ L1_ O1_
  generalize ((((((w6.setCell ⟨gT, (o + 3), none⟩ (.int .i64 a2.d)).setCell ⟨gT, (o + 4), none⟩ (.int .i64 a2.ar)).setCell ⟨gT, (o + 5), none⟩ (.int .i64 a2.at_)).setCell ⟨gT, (o + 6), none⟩ (.int .u64 a2.old)).setCell ⟨gT, (o + 7), none⟩ (.int .u64 a2.new)).setCell ⟨gT, (o + 8), none⟩ (.bool true)) = V6 at C1 T1 K1 R1 E1 Q1 F1 L1 O1 ⊢
  have hlo := (Array.getElem?_eq_some_iff.1 HE8.out).1
  have hto8 : V6.cell? ⟨gT, o + 8, none⟩ = some (.bool true) := (T1.out.cell (o + 8)).trans (Array.getElem?_setIfInBounds_self_of_lt (by simp only [Array.size_setIfInBounds]; omega))
  go_wp2
  go_end0
  have hw := EW.out
  have hd := ED.out
  subst hw
  subst hd
  exact ⟨r3, s1, q1, rfl, C1.out, T1.out, K1.out, R1.out, E1.out, Q1.out, F1.out, L1.out, (fun g hg => (HW6.out g hg).imp_right (fun h => Nat.le_trans HSZ.out h)), O1.out⟩

set_option maxHeartbeats 8000000 in
theorem stepg_fin (w : World) (B : Nat) (bs : Array Value) (gC gT o i P F base nS nK k : Nat) (cs : Array Value) (l : List Cap1) (p : Pl) (q : Sl) (fs : List (Int × Bool)) (cd2 ou2 : Int) (ct : Array Value) (a : Acc) (r : R) (m : Memc.M) (th sS sK : Sl) (ys xs : List Value) (x4 x5 x6 : Value)
    (hC : Blk w gC 102 #[.func (.func B) #[] bs, .slice th.A th.n th.c, .slice sS.A sS.n sS.c, .slice sK.A sK.n sK.c, .int .u64 r.e, .int .u64 r.f, .slice r.L.A r.L.n r.L.c, .slice r.P.A r.P.n r.P.c, .int .u64 r.h, .int .u64 r.t, .slice r.K.A r.K.n r.K.c, .slice r.X.A r.X.n r.X.c, .slice r.S.A r.S.n r.S.c]) (hT : Blk w gT 104 ct)
    (e1 : ct[o + 1]? = some (.iface 123 (.pointer (some ⟨P, 0, none⟩)))) (e2 : ct[o + 2]? = some (.int .i64 k))
    (e3 : ct[o + 3]? = some (.int .i64 a.d)) (e4 : ct[o + 4]? = some (.int .i64 a.ar)) (e5 : ct[o + 5]? = some (.int .i64 a.at_)) (e6 : ct[o + 6]? = some (.int .u64 a.old)) (e7 : ct[o + 7]? = some (.int .u64 a.new)) (e8 : ct[o + 8]? = some (.bool true))
    (hE : Endw w base r m) (hfew : ∀ ar, (m.area ar).length ≤ 1000000) (ha : a.ok) (hS : Row w base 59 8 sS nS ys) (hK : Row w base 55 7 sK nK xs) (hnS : nS < 100000) (hnK : nK < 1000000)
    (hk : k < nK) (hx4 : xs[k * 7 + 4]? = some x4) (hx5 : xs[k * 7 + 5]? = some x5) (hx6 : xs[k * 7 + 6]? = some x6) (hcs : cs = (l.map Cap1.ptr).toArray) (hme : Meets F l p) (hQ : Blk w P 126 #[.func (.func F) #[] cs, .slice q.A q.n q.c, .bool true, .bool false, .int .i64 0, .int .u32 0]) (hF : Row w base 194 2 q fs.length (flatF fs)) (hL : Kept w l) (hsf : SafeL l) (hfn : fs.length < 100000) (hg : Going p fs) (hp0 : p fs = .ask a) (hnx : p (fs ++ [((acc m a).2.1, (acc m a).2.2)]) = .fin cd2 ou2) (hbase : base ≤ w.heap.size) :
    Calls Try.prog 88 #[.pointer (some ⟨gC, 0, none⟩), .pointer (some ⟨gT, o, none⟩), .int .i64 i] w (SteppedF w B bs gC gT o i P base nS nK k q cd2 ou2 ct a m th sS sK ys xs) := by
  have hCX : ¬ gC = w.heap.size := by have := hC.lt; omega
  have hTX : ¬ gT = w.heap.size := by have := hT.lt; omega
  have hXC : ¬ w.heap.size = gC := fun e => hCX e.symm
  have hXT : ¬ w.heap.size = gT := fun e => hTX e.symm
  have hTC : ¬ gT = gC := Blk.ne hT hC (by decide)
  have hCT : ¬ gC = gT := fun e => hTC e.symm
  have hPC : ¬ P = gC := Blk.ne hQ hC (by decide)
  have hPT : ¬ P = gT := Blk.ne hQ hT (by decide)
  have HFC := Lib.hid (Row.ne hF hC (by decide))
  have HFT := Lib.hid (Row.ne hF hT (by decide))
  have HLC : Hid (∀ x ∈ l, ¬ x.g = gC) := Lib.hid (fun x hx => Blk.ne (hL x hx) hC (hsf x hx).2.2.1)
  have HLT : Hid (∀ x ∈ l, ¬ x.g = gT) := Lib.hid (fun x hx => Blk.ne (hL x hx) hT (hsf x hx).2.2.2.1)
  have HLX : Hid (∀ x ∈ l, ¬ x.g = w.heap.size) := Lib.hid (fun x hx e => by have := (hL x hx).lt; omega)
  have HFX : Hid (∀ g, bl q g → g ≠ w.heap.size) := Lib.hid (fun g hg e => by have := (hF.lt hg).2; omega)
  have hPX : ¬ P = w.heap.size := by have := hQ.lt; omega
  have hct := (hT.cell (o + 3)).trans e3
  have hct4 := (hT.cell (o + 4)).trans e4
  have hct5 := (hT.cell (o + 5)).trans e5
  have hct6 := (hT.cell (o + 6)).trans e6
  have hct7 := (hT.cell (o + 7)).trans e7
  have hzT := hT.lt
  have HE1 := Lib.hid e1
  have HE2 := Lib.hid e2
  have HE3 := Lib.hid e3
  have HE4 := Lib.hid e4
  have HE5 := Lib.hid e5
  have HE6 := Lib.hid e6
  have HE7 := Lib.hid e7
  have HE8 := Lib.hid e8
  have HC := Lib.hid hC
  have HT := Lib.hid hT
  have HEW := Lib.hid hE
  have HRS := Lib.hid hS
  have HRK := Lib.hid hK
  have HQ := Lib.hid hQ
  have HFR := Lib.hid hF
  have HLK := Lib.hid hL
  have HSF := Lib.hid hsf
  have HME := Lib.hid hme
  have HCS := Lib.hid hcs
  have HFN := Lib.hid hfn
  have HG2 := Lib.hid (hg.snoc hp0 ((acc m a).2.1, (acc m a).2.2) (acc_was m hE.2.1 a))
  have HNX := Lib.hid hnx
  have FEW := Lib.hid hfew
  have HA := Lib.hid ha
  have HX4 := Lib.hid hx4
  have HX5 := Lib.hid hx5
  have HX6 := Lib.hid hx6
  obtain ⟨wv, hwv⟩ : ∃ x, (acc m a).2.1 = x := ⟨_, rfl⟩
  obtain ⟨dv, hdv⟩ : ∃ x, (acc m a).2.2 = x := ⟨_, rfl⟩
  have EW := Lib.hid hwv
  have ED := Lib.hid hdv
  rw [hwv, hdv] at HNX HG2
  clear e1 e2 e3 e4 e5 e6 e7 e8 hC hT hE hS hK hQ hF hL hsf hme hcs hfn hg hp0 hnx hfew ha hx4 hx5 hx6 hwv hdv
  go_enter Try.func88, Try.ntmps88
  go_wp2_with fail
  have C1 := Lib.hid (HC.out.alloc (.cells #[.int .i64 i, .int .i64 a.d, .int .i64 a.ar, .int .i64 a.at_, .int .u64 a.old, .int .u64 a.new, .int .u64 0, .bool false] 59)).drew
  have T1 := Lib.hid (HT.out.alloc (.cells #[.int .i64 i, .int .i64 a.d, .int .i64 a.ar, .int .i64 a.at_, .int .u64 a.old, .int .u64 a.new, .int .u64 0, .bool false] 59)).drew
  have X1 : Hid (Blk (w.alloc (.cells #[.int .i64 i, .int .i64 a.d, .int .i64 a.ar, .int .i64 a.at_, .int .u64 a.old, .int .u64 a.new, .int .u64 0, .bool false] 59)).drew w.heap.size 59 #[.int .i64 i, .int .i64 a.d, .int .i64 a.ar, .int .i64 a.at_, .int .u64 a.old, .int .u64 a.new, .int .u64 0, .bool false]) := Lib.hid (Blk.new _ _ _).drew
  have K1 : Hid (Row (w.alloc (.cells #[.int .i64 i, .int .i64 a.d, .int .i64 a.ar, .int .i64 a.at_, .int .u64 a.old, .int .u64 a.new, .int .u64 0, .bool false] 59)).drew base 55 7 sK nK xs) := Lib.hid (HRK.out.alloc (.cells #[.int .i64 i, .int .i64 a.d, .int .i64 a.ar, .int .i64 a.at_, .int .u64 a.old, .int .u64 a.new, .int .u64 0, .bool false] 59)).drew
  have R1 : Hid (Row (w.alloc (.cells #[.int .i64 i, .int .i64 a.d, .int .i64 a.ar, .int .i64 a.at_, .int .u64 a.old, .int .u64 a.new, .int .u64 0, .bool false] 59)).drew base 59 8 sS nS ys) := Lib.hid (HRS.out.alloc (.cells #[.int .i64 i, .int .i64 a.d, .int .i64 a.ar, .int .i64 a.at_, .int .u64 a.old, .int .u64 a.new, .int .u64 0, .bool false] 59)).drew
  have Q1 : Hid (Blk (w.alloc (.cells #[.int .i64 i, .int .i64 a.d, .int .i64 a.ar, .int .i64 a.at_, .int .u64 a.old, .int .u64 a.new, .int .u64 0, .bool false] 59)).drew P 126 #[.func (.func F) #[] cs, .slice q.A q.n q.c, .bool true, .bool false, .int .i64 0, .int .u32 0]) := Lib.hid (HQ.out.alloc (.cells #[.int .i64 i, .int .i64 a.d, .int .i64 a.ar, .int .i64 a.at_, .int .u64 a.old, .int .u64 a.new, .int .u64 0, .bool false] 59)).drew
  have F1 : Hid (Row (w.alloc (.cells #[.int .i64 i, .int .i64 a.d, .int .i64 a.ar, .int .i64 a.at_, .int .u64 a.old, .int .u64 a.new, .int .u64 0, .bool false] 59)).drew base 194 2 q fs.length (flatF fs)) := Lib.hid (HFR.out.alloc (.cells #[.int .i64 i, .int .i64 a.d, .int .i64 a.ar, .int .i64 a.at_, .int .u64 a.old, .int .u64 a.new, .int .u64 0, .bool false] 59)).drew
  have L1 : Hid (Kept (w.alloc (.cells #[.int .i64 i, .int .i64 a.d, .int .i64 a.ar, .int .i64 a.at_, .int .u64 a.old, .int .u64 a.new, .int .u64 0, .bool false] 59)).drew l) := Lib.hid (fun x hx => ((HLK.out x hx).alloc (.cells #[.int .i64 i, .int .i64 a.d, .int .i64 a.ar, .int .i64 a.at_, .int .u64 a.old, .int .u64 a.new, .int .u64 0, .bool false] 59)).drew)
  have E1 : Hid (Endw (w.alloc (.cells #[.int .i64 i, .int .i64 a.d, .int .i64 a.ar, .int .i64 a.at_, .int .u64 a.old, .int .u64 a.new, .int .u64 0, .bool false] 59)).drew base r m) := Lib.hid (HEW.out.alloc (.cells #[.int .i64 i, .int .i64 a.d, .int .i64 a.ar, .int .i64 a.at_, .int .u64 a.old, .int .u64 a.new, .int .u64 0, .bool false] 59)).drew
  have O1 : Hid (Only (fun g => (g = gT ∨ g = gC ∨ g = P) ∨ bl sS g ∨ bl sK g ∨ bl q g) w (w.alloc (.cells #[.int .i64 i, .int .i64 a.d, .int .i64 a.ar, .int .i64 a.at_, .int .u64 a.old, .int .u64 a.new, .int .u64 0, .bool false] 59)).drew) := Lib.hid (((Only.refl _ _).alloc _).drew)
  have hbV : Hid (base ≤ (w.alloc (.cells #[.int .i64 i, .int .i64 a.d, .int .i64 a.ar, .int .i64 a.at_, .int .u64 a.old, .int .u64 a.new, .int .u64 0, .bool false] 59)).drew.heap.size) := Lib.hid (Nat.le_trans hbase (by simp))
  clear hct hct4 hct5 hct6 hct7
  have HKC := Lib.hid (Row.ne HRK.out HC.out (by decide))
  have HRC := Lib.hid (Row.ne HRS.out HC.out (by decide))
  have HKX := Lib.hid (Row.ne K1.out X1.out (by decide))
  have HRX : Hid (∀ g, bl sS g → g ≠ w.heap.size) := Lib.hid (fun g hg => by have := (HRS.out.lt hg).2; omega)
  generalize w.alloc (.cells #[.int .i64 i, .int .i64 a.d, .int .i64 a.ar, .int .i64 a.at_, .int .u64 a.old, .int .u64 a.new, .int .u64 0, .bool false] 59) = V at C1 T1 X1 K1 R1 Q1 F1 L1 E1 O1 hbV HKX ⊢
  refine Zreg.begin_ (S := (fun w' => (∀ j, w'.cell? ⟨gC, j, none⟩ = (#[.func (.func B) #[] bs, .slice th.A th.n th.c, .slice sS.A sS.n sS.c, .slice sK.A sK.n sK.c, .int .u64 r.e, .int .u64 r.f, .slice r.L.A r.L.n r.L.c, .slice r.P.A r.P.n r.P.c, .int .u64 r.h, .int .u64 r.t, .slice r.K.A r.K.n r.K.c, .slice r.X.A r.X.n r.X.c, .slice r.S.A r.S.n r.S.c] : Array Value)[j]?) ∧ w'.cell? ⟨gT, o + 3, none⟩ = some (.int .i64 a.d) ∧ w'.cell? ⟨gT, o + 4, none⟩ = some (.int .i64 a.ar) ∧ w'.cell? ⟨gT, o + 5, none⟩ = some (.int .i64 a.at_) ∧ w'.cell? ⟨gT, o + 6, none⟩ = some (.int .u64 a.old) ∧ w'.cell? ⟨gT, o + 7, none⟩ = some (.int .u64 a.new))) (zs := [18]) (by kernel_rfl) ?_
  show Zreg.After _ _ _ _ _ _ 23 #[false, false, false, false, false, false, false, false, false, false, false, false, false, false, false, false, false, false, false, false, false, false, false] _ _
  refine Zreg.takeP 0 15 (x := ?xb_0) rfl rfl (by kernel_rfl) (by kernel_rfl) (by kernel_rfl) (by kernel_rfl) (fun _ _ _ h => h) (.inr ⟨C1.out.cell, (T1.out.cell _).trans HE3.out, (T1.out.cell _).trans HE4.out, (T1.out.cell _).trans HE5.out, (T1.out.cell _).trans HE6.out, (T1.out.cell _).trans HE7.out⟩) (Or.inl ⟨by rfl, ?yb_0⟩) ?rb_0
  case yb_0 => (intro w _; go_simp <;> with_reducible rfl)
  simp only [List.setIfInBounds_toArray, List.set_cons_zero, List.set_cons_succ]
  refine Zreg.takeP 1 16 (x := ?xb_1) rfl rfl (by kernel_rfl) (by kernel_rfl) (by kernel_rfl) (by kernel_rfl) (fun _ _ _ h => h) (.inr ⟨C1.out.cell, (T1.out.cell _).trans HE3.out, (T1.out.cell _).trans HE4.out, (T1.out.cell _).trans HE5.out, (T1.out.cell _).trans HE6.out, (T1.out.cell _).trans HE7.out⟩) (Or.inl ⟨by rfl, ?yb_1⟩) ?rb_1
  case yb_1 => (intro w _; go_simp <;> with_reducible rfl)
  simp only [List.setIfInBounds_toArray, List.set_cons_zero, List.set_cons_succ]
  refine Zreg.takeP 2 17 (x := ?xb_2) rfl rfl (by kernel_rfl) (by kernel_rfl) (by kernel_rfl) (by kernel_rfl) (fun _ _ _ h => h) (.inr ⟨C1.out.cell, (T1.out.cell _).trans HE3.out, (T1.out.cell _).trans HE4.out, (T1.out.cell _).trans HE5.out, (T1.out.cell _).trans HE6.out, (T1.out.cell _).trans HE7.out⟩) (Or.inl ⟨by rfl, ?yb_2⟩) ?rb_2
  case yb_2 => (intro w _; go_simp <;> with_reducible rfl)
  simp only [List.setIfInBounds_toArray, List.set_cons_zero, List.set_cons_succ]
  refine Zreg.takeP 3 18 (x := ?xb_3) rfl rfl (by kernel_rfl) (by kernel_rfl) (by kernel_rfl) (by kernel_rfl) (fun _ _ _ h => h) (.inr ⟨C1.out.cell, (T1.out.cell _).trans HE3.out, (T1.out.cell _).trans HE4.out, (T1.out.cell _).trans HE5.out, (T1.out.cell _).trans HE6.out, (T1.out.cell _).trans HE7.out⟩) (Or.inl ⟨by rfl, ?yb_3⟩) ?rb_3
  case yb_3 => (intro w _; go_simp <;> with_reducible rfl)
  simp only [List.setIfInBounds_toArray, List.set_cons_zero, List.set_cons_succ]
  refine Zreg.takeP 4 19 (x := ?xb_4) rfl rfl (by kernel_rfl) (by kernel_rfl) (by kernel_rfl) (by kernel_rfl) (fun _ _ _ h => h) (.inr ⟨C1.out.cell, (T1.out.cell _).trans HE3.out, (T1.out.cell _).trans HE4.out, (T1.out.cell _).trans HE5.out, (T1.out.cell _).trans HE6.out, (T1.out.cell _).trans HE7.out⟩) (Or.inl ⟨by rfl, ?yb_4⟩) ?rb_4
  case yb_4 => (intro w _; go_simp <;> with_reducible rfl)
  simp only [List.setIfInBounds_toArray, List.set_cons_zero, List.set_cons_succ]
  refine Zreg.takeS 5 20 (x := ?xb_5) rfl rfl (by kernel_rfl) (by kernel_rfl) (by kernel_rfl) (by kernel_rfl) (by kernel_rfl) (by kernel_rfl) (fun _ _ _ h => h) (.inr ⟨C1.out.cell, (T1.out.cell _).trans HE3.out, (T1.out.cell _).trans HE4.out, (T1.out.cell _).trans HE5.out, (T1.out.cell _).trans HE6.out, (T1.out.cell _).trans HE7.out⟩) (Or.inl ⟨by rfl, ?yb_5⟩) ?rb_5
  case yb_5 => (intro w hSw; (try dsimp only at hSw); go_simp <;> with_reducible rfl)
  simp only [List.setIfInBounds_toArray, List.set_cons_zero, List.set_cons_succ]
  refine Zreg.takeP 6 21 (x := ?xb_6) rfl rfl (by kernel_rfl) (by kernel_rfl) (by kernel_rfl) (by kernel_rfl) (fun _ _ _ h => h) (.inr ⟨C1.out.cell, (T1.out.cell _).trans HE3.out, (T1.out.cell _).trans HE4.out, (T1.out.cell _).trans HE5.out, (T1.out.cell _).trans HE6.out, (T1.out.cell _).trans HE7.out⟩) (Or.inl ⟨by rfl, ?yb_6⟩) ?rb_6
  case yb_6 => (intro w _; go_simp <;> with_reducible rfl)
  simp only [List.setIfInBounds_toArray, List.set_cons_zero, List.set_cons_succ]
  refine Zreg.takeP 7 22 (x := ?xb_7) rfl rfl (by kernel_rfl) (by kernel_rfl) (by kernel_rfl) (by kernel_rfl) (fun _ _ _ h => h) (.inr ⟨C1.out.cell, (T1.out.cell _).trans HE3.out, (T1.out.cell _).trans HE4.out, (T1.out.cell _).trans HE5.out, (T1.out.cell _).trans HE6.out, (T1.out.cell _).trans HE7.out⟩) (Or.inl ⟨by rfl, ?yb_7⟩) ?rb_7
  case yb_7 => (intro w _; go_simp <;> with_reducible rfl)
  simp only [List.setIfInBounds_toArray, List.set_cons_zero, List.set_cons_succ]
  refine Zreg.takeP 8 23 (x := ?xb_8) rfl rfl (by kernel_rfl) (by kernel_rfl) (by kernel_rfl) (by kernel_rfl) (fun _ _ _ h => h) (.inr ⟨C1.out.cell, (T1.out.cell _).trans HE3.out, (T1.out.cell _).trans HE4.out, (T1.out.cell _).trans HE5.out, (T1.out.cell _).trans HE6.out, (T1.out.cell _).trans HE7.out⟩) (Or.inl ⟨by rfl, ?yb_8⟩) ?rb_8
  case yb_8 => (intro w _; go_simp <;> with_reducible rfl)
  simp only [List.setIfInBounds_toArray, List.set_cons_zero, List.set_cons_succ]
  refine Zreg.takeS 9 24 (x := ?xb_9) rfl rfl (by kernel_rfl) (by kernel_rfl) (by kernel_rfl) (by kernel_rfl) (by kernel_rfl) (by kernel_rfl) (fun _ _ _ h => h) (.inr ⟨C1.out.cell, (T1.out.cell _).trans HE3.out, (T1.out.cell _).trans HE4.out, (T1.out.cell _).trans HE5.out, (T1.out.cell _).trans HE6.out, (T1.out.cell _).trans HE7.out⟩) (Or.inl ⟨by rfl, ?yb_9⟩) ?rb_9
  case yb_9 => (intro w hSw; (try dsimp only at hSw); go_simp <;> with_reducible rfl)
  simp only [List.setIfInBounds_toArray, List.set_cons_zero, List.set_cons_succ]
  refine Zreg.one 10 (by kernel_rfl) rfl rfl fun K hK => ?_
  go_simp
  go_at_call 115
  refine (do_own _ _ r m a (Endw.rm E1.out) (Nat.le_refl _) FEW.out HA.out).mono ?_
  rintro e w3 ⟨r3, he, hr3, hb3, ho3⟩
  rw [EW.out, ED.out] at he
  subst he
  go_must (have C1_ := Lib.hid (C1.out.below hb3 C1.out.lt); have T1_ := Lib.hid (T1.out.below hb3 T1.out.lt); have X1_ := Lib.hid (X1.out.below hb3 X1.out.lt); have K1_ := Lib.hid (K1.out.below hb3 (Nat.le_refl _)); have R1_ := Lib.hid (R1.out.below hb3 (Nat.le_refl _)); have Q1_ := Lib.hid (Q1.out.below hb3 Q1.out.lt); have F1_ := Lib.hid (F1.out.below hb3 (Nat.le_refl _)); have L1_ : Hid (Kept w3 l) := Lib.hid (fun x hx => (L1.out x hx).below hb3 (L1.out x hx).lt); have E1_ : Hid (Endw w3 base r3 (acc m a).1) := Lib.hid ⟨⟨hr3.1, hr3.2.1, hr3.2.2.1, hr3.2.2.2.1⟩, hr3.2.2.2.2.1, fun ar hl => (ho3 ar hl).weaken hbV.out⟩; have O1_ := Lib.hid (O1.out.next (Only.of_below (P := fun _ => False) hb3 (Nat.le_refl _)) (fun k _ h => h.elim)))
  clear hr3 hb3 ho3 C1 T1 X1 K1 R1 Q1 F1 L1 E1 O1
  have C1 := Lib.hid C1_.out
  have T1 := Lib.hid T1_.out
  have X1 := Lib.hid X1_.out
  have K1 := Lib.hid K1_.out
  have R1 := Lib.hid R1_.out
  have Q1 := Lib.hid Q1_.out
  have F1 := Lib.hid F1_.out
  have L1 := Lib.hid L1_.out
  have E1 := Lib.hid E1_.out
  have O1 := Lib.hid O1_.out
  clear C1_ T1_ X1_ K1_ R1_ Q1_ F1_ L1_ E1_ O1_
  have hc := C1.out.cell
  have hcf := C1.out.frozen
  have hx := X1.out.cell
  have hxf := X1.out.frozen
  refine hK.out _ _ (.inr ⟨C1.out.cell, (T1.out.cell _).trans HE3.out, (T1.out.cell _).trans HE4.out, (T1.out.cell _).trans HE5.out, (T1.out.cell _).trans HE6.out, (T1.out.cell _).trans HE7.out⟩) fun _ => ?_
  clear hK
  simp only [List.setIfInBounds_toArray, List.set_cons_zero, List.set_cons_succ]
  refine Zreg.takeP 11 14 (x := ?xb_11) rfl rfl (by kernel_rfl) (by kernel_rfl) (by kernel_rfl) (by kernel_rfl) (fun _ _ _ h => h) (.inr ⟨C1.out.cell, (T1.out.cell _).trans HE3.out, (T1.out.cell _).trans HE4.out, (T1.out.cell _).trans HE5.out, (T1.out.cell _).trans HE6.out, (T1.out.cell _).trans HE7.out⟩) (Or.inl ⟨by rfl, ?yb_11⟩) ?rb_11
  case yb_11 => (intro w _; go_simp <;> with_reducible rfl)
  simp only [List.setIfInBounds_toArray, List.set_cons_zero, List.set_cons_succ]
  refine Zreg.takeP 12 26 (x := ?xb_12) rfl rfl (by kernel_rfl) (by kernel_rfl) (by kernel_rfl) (by kernel_rfl) (fun _ _ _ h => h) (.inr ⟨C1.out.cell, (T1.out.cell _).trans HE3.out, (T1.out.cell _).trans HE4.out, (T1.out.cell _).trans HE5.out, (T1.out.cell _).trans HE6.out, (T1.out.cell _).trans HE7.out⟩) (Or.inl ⟨by rfl, ?yb_12⟩) ?rb_12
  case yb_12 => (intro w _; go_simp <;> with_reducible rfl)
  simp only [List.setIfInBounds_toArray, List.set_cons_zero, List.set_cons_succ]
  refine Zreg.takeP 13 27 (x := ?xb_13) rfl rfl (by kernel_rfl) (by kernel_rfl) (by kernel_rfl) (by kernel_rfl) (fun _ _ _ h => h) (.inr ⟨C1.out.cell, (T1.out.cell _).trans HE3.out, (T1.out.cell _).trans HE4.out, (T1.out.cell _).trans HE5.out, (T1.out.cell _).trans HE6.out, (T1.out.cell _).trans HE7.out⟩) (Or.inl ⟨by rfl, ?yb_13⟩) ?rb_13
  case yb_13 => (intro w _; go_simp <;> with_reducible rfl)
  simp only [List.setIfInBounds_toArray, List.set_cons_zero, List.set_cons_succ]
  refine Zreg.takeP 14 28 (x := ?xb_14) rfl rfl (by kernel_rfl) (by kernel_rfl) (by kernel_rfl) (by kernel_rfl) (fun _ _ _ h => h) (.inr ⟨C1.out.cell, (T1.out.cell _).trans HE3.out, (T1.out.cell _).trans HE4.out, (T1.out.cell _).trans HE5.out, (T1.out.cell _).trans HE6.out, (T1.out.cell _).trans HE7.out⟩) (Or.inl ⟨by rfl, ?yb_14⟩) ?rb_14
  case yb_14 => (intro w _; go_simp <;> with_reducible rfl)
  simp only [List.setIfInBounds_toArray, List.set_cons_zero, List.set_cons_succ]
  refine Zreg.takeP 15 29 (x := ?xb_15) rfl rfl (by kernel_rfl) (by kernel_rfl) (by kernel_rfl) (by kernel_rfl) (fun _ _ _ h => h) (.inr ⟨C1.out.cell, (T1.out.cell _).trans HE3.out, (T1.out.cell _).trans HE4.out, (T1.out.cell _).trans HE5.out, (T1.out.cell _).trans HE6.out, (T1.out.cell _).trans HE7.out⟩) (Or.inl ⟨by rfl, ?yb_15⟩) ?rb_15
  case yb_15 => (intro w _; go_simp <;> with_reducible rfl)
  simp only [List.setIfInBounds_toArray, List.set_cons_zero, List.set_cons_succ]
  refine Zreg.takeP 16 30 (x := ?xb_16) rfl rfl (by kernel_rfl) (by kernel_rfl) (by kernel_rfl) (by kernel_rfl) (fun _ _ _ h => h) (.inr ⟨C1.out.cell, (T1.out.cell _).trans HE3.out, (T1.out.cell _).trans HE4.out, (T1.out.cell _).trans HE5.out, (T1.out.cell _).trans HE6.out, (T1.out.cell _).trans HE7.out⟩) (Or.inl ⟨by rfl, ?yb_16⟩) ?rb_16
  case yb_16 => (intro w _; go_simp <;> with_reducible rfl)
  simp only [List.setIfInBounds_toArray, List.set_cons_zero, List.set_cons_succ]
  refine Zreg.takeP 17 31 (x := ?xb_17) rfl rfl (by kernel_rfl) (by kernel_rfl) (by kernel_rfl) (by kernel_rfl) (fun _ _ _ h => h) (.inr ⟨C1.out.cell, (T1.out.cell _).trans HE3.out, (T1.out.cell _).trans HE4.out, (T1.out.cell _).trans HE5.out, (T1.out.cell _).trans HE6.out, (T1.out.cell _).trans HE7.out⟩) (Or.inl ⟨by rfl, ?yb_17⟩) ?rb_17
  case yb_17 => (intro w _; go_simp <;> with_reducible rfl)
  simp only [List.setIfInBounds_toArray, List.set_cons_zero, List.set_cons_succ]
  refine Zreg.one 18 (by kernel_rfl) rfl rfl fun K hK => ?_
  go_simp
  refine hK.out _ _ (.inl (by kernel_rfl)) fun _ => ?_
  clear hK
  simp only [List.setIfInBounds_toArray, List.set_cons_zero, List.set_cons_succ]
  refine Zreg.takeP 19 32 (x := ?xb_19) rfl rfl (by kernel_rfl) (by kernel_rfl) (by kernel_rfl) (by kernel_rfl) (fun _ _ _ h => h) (.inl (by kernel_rfl)) (Or.inl ⟨by rfl, ?yb_19⟩) ?rb_19
  case yb_19 => (intro w _; go_simp <;> with_reducible rfl)
  simp only [List.setIfInBounds_toArray, List.set_cons_zero, List.set_cons_succ]
  refine Zreg.one 20 (by kernel_rfl) rfl rfl fun K hK => ?_
  go_simp
  refine hK.out _ _ (.inl (by kernel_rfl)) fun _ => ?_
  clear hK
  simp only [List.setIfInBounds_toArray, List.set_cons_zero, List.set_cons_succ]
  refine Zreg.takeP 21 33 (x := ?xb_21) rfl rfl (by kernel_rfl) (by kernel_rfl) (by kernel_rfl) (by kernel_rfl) (fun _ _ _ h => h) (.inl (by kernel_rfl)) (Or.inl ⟨by rfl, ?yb_21⟩) ?rb_21
  case yb_21 => (intro w _; go_simp <;> with_reducible rfl)
  simp only [List.setIfInBounds_toArray, List.set_cons_zero, List.set_cons_succ]
  refine Zreg.one 22 (by kernel_rfl) rfl rfl fun K hK => ?_
  go_simp
  refine hK.out _ _ (.inl (by kernel_rfl)) fun _ => ?_
  clear hK
  simp only [List.setIfInBounds_toArray, List.set_cons_zero, List.set_cons_succ]
  refine Zreg.done (by kernel_rfl) ?_ _
  have HEC := Lib.hid (Endw.ne E1.out C1.out (by decide) (by decide))
  have HEX := Lib.hid (Endw.ne E1.out X1.out (by decide) (by decide))
  clear hc hcf hx hxf
  have C1_ : Hid (Blk (((((((((((w3.setCell ⟨gC, 4, none⟩ (.int .u64 r3.e)).setCell ⟨gC, 5, none⟩ (.int .u64 r3.f)).setCell ⟨gC, 6, none⟩ (.slice r3.L.A r3.L.n r3.L.c)).setCell ⟨gC, 7, none⟩ (.slice r3.P.A r3.P.n r3.P.c)).setCell ⟨gC, 8, none⟩ (.int .u64 r3.h)).setCell ⟨gC, 9, none⟩ (.int .u64 r3.t)).setCell ⟨gC, 10, none⟩ (.slice r3.K.A r3.K.n r3.K.c)).setCell ⟨gC, 11, none⟩ (.slice r3.X.A r3.X.n r3.X.c)).setCell ⟨gC, 12, none⟩ (.slice r3.S.A r3.S.n r3.S.c)).setCell ⟨w.heap.size, 6, none⟩ (.int .u64 wv)).setCell ⟨w.heap.size, 7, none⟩ (.bool dv)) gC 102 #[.func (.func B) #[] bs, .slice th.A th.n th.c, .slice sS.A sS.n sS.c, .slice sK.A sK.n sK.c, .int .u64 r3.e, .int .u64 r3.f, .slice r3.L.A r3.L.n r3.L.c, .slice r3.P.A r3.P.n r3.P.c, .int .u64 r3.h, .int .u64 r3.t, .slice r3.K.A r3.K.n r3.K.c, .slice r3.X.A r3.X.n r3.X.c, .slice r3.S.A r3.S.n r3.S.c]) := Lib.hid (by have h_ := (Blk.far (Blk.far (Blk.set_ (Blk.set_ (Blk.set_ (Blk.set_ (Blk.set_ (Blk.set_ (Blk.set_ (Blk.set_ (Blk.set_ C1.out 4 (.int .u64 r3.e)) 5 (.int .u64 r3.f)) 6 (.slice r3.L.A r3.L.n r3.L.c)) 7 (.slice r3.P.A r3.P.n r3.P.c)) 8 (.int .u64 r3.h)) 9 (.int .u64 r3.t)) 10 (.slice r3.K.A r3.K.n r3.K.c)) 11 (.slice r3.X.A r3.X.n r3.X.c)) 12 (.slice r3.S.A r3.S.n r3.S.c)) (p := ⟨w.heap.size, 6, none⟩) hCX (.int .u64 wv)) (p := ⟨w.heap.size, 7, none⟩) hCX (.bool dv)); simpa only [List.setIfInBounds_toArray, List.set_cons_zero, List.set_cons_succ] using h_)
  have T1_ := Lib.hid (Blk.far (Blk.far (Blk.far (Blk.far (Blk.far (Blk.far (Blk.far (Blk.far (Blk.far (Blk.far (Blk.far T1.out (p := ⟨gC, 4, none⟩) hTC (.int .u64 r3.e)) (p := ⟨gC, 5, none⟩) hTC (.int .u64 r3.f)) (p := ⟨gC, 6, none⟩) hTC (.slice r3.L.A r3.L.n r3.L.c)) (p := ⟨gC, 7, none⟩) hTC (.slice r3.P.A r3.P.n r3.P.c)) (p := ⟨gC, 8, none⟩) hTC (.int .u64 r3.h)) (p := ⟨gC, 9, none⟩) hTC (.int .u64 r3.t)) (p := ⟨gC, 10, none⟩) hTC (.slice r3.K.A r3.K.n r3.K.c)) (p := ⟨gC, 11, none⟩) hTC (.slice r3.X.A r3.X.n r3.X.c)) (p := ⟨gC, 12, none⟩) hTC (.slice r3.S.A r3.S.n r3.S.c)) (p := ⟨w.heap.size, 6, none⟩) hTX (.int .u64 wv)) (p := ⟨w.heap.size, 7, none⟩) hTX (.bool dv))
  have X1_ : Hid (Blk (((((((((((w3.setCell ⟨gC, 4, none⟩ (.int .u64 r3.e)).setCell ⟨gC, 5, none⟩ (.int .u64 r3.f)).setCell ⟨gC, 6, none⟩ (.slice r3.L.A r3.L.n r3.L.c)).setCell ⟨gC, 7, none⟩ (.slice r3.P.A r3.P.n r3.P.c)).setCell ⟨gC, 8, none⟩ (.int .u64 r3.h)).setCell ⟨gC, 9, none⟩ (.int .u64 r3.t)).setCell ⟨gC, 10, none⟩ (.slice r3.K.A r3.K.n r3.K.c)).setCell ⟨gC, 11, none⟩ (.slice r3.X.A r3.X.n r3.X.c)).setCell ⟨gC, 12, none⟩ (.slice r3.S.A r3.S.n r3.S.c)).setCell ⟨w.heap.size, 6, none⟩ (.int .u64 wv)).setCell ⟨w.heap.size, 7, none⟩ (.bool dv)) w.heap.size 59 #[.int .i64 i, .int .i64 a.d, .int .i64 a.ar, .int .i64 a.at_, .int .u64 a.old, .int .u64 a.new, .int .u64 wv, .bool dv]) := Lib.hid (by have h_ := (Blk.set_ (Blk.set_ (Blk.far (Blk.far (Blk.far (Blk.far (Blk.far (Blk.far (Blk.far (Blk.far (Blk.far X1.out (p := ⟨gC, 4, none⟩) hXC (.int .u64 r3.e)) (p := ⟨gC, 5, none⟩) hXC (.int .u64 r3.f)) (p := ⟨gC, 6, none⟩) hXC (.slice r3.L.A r3.L.n r3.L.c)) (p := ⟨gC, 7, none⟩) hXC (.slice r3.P.A r3.P.n r3.P.c)) (p := ⟨gC, 8, none⟩) hXC (.int .u64 r3.h)) (p := ⟨gC, 9, none⟩) hXC (.int .u64 r3.t)) (p := ⟨gC, 10, none⟩) hXC (.slice r3.K.A r3.K.n r3.K.c)) (p := ⟨gC, 11, none⟩) hXC (.slice r3.X.A r3.X.n r3.X.c)) (p := ⟨gC, 12, none⟩) hXC (.slice r3.S.A r3.S.n r3.S.c)) 6 (.int .u64 wv)) 7 (.bool dv)); simpa only [List.setIfInBounds_toArray, List.set_cons_zero, List.set_cons_succ] using h_)
  have K1_ := Lib.hid (Row.kept (w' := (((((((((((w3.setCell ⟨gC, 4, none⟩ (.int .u64 r3.e)).setCell ⟨gC, 5, none⟩ (.int .u64 r3.f)).setCell ⟨gC, 6, none⟩ (.slice r3.L.A r3.L.n r3.L.c)).setCell ⟨gC, 7, none⟩ (.slice r3.P.A r3.P.n r3.P.c)).setCell ⟨gC, 8, none⟩ (.int .u64 r3.h)).setCell ⟨gC, 9, none⟩ (.int .u64 r3.t)).setCell ⟨gC, 10, none⟩ (.slice r3.K.A r3.K.n r3.K.c)).setCell ⟨gC, 11, none⟩ (.slice r3.X.A r3.X.n r3.X.c)).setCell ⟨gC, 12, none⟩ (.slice r3.S.A r3.S.n r3.S.c)).setCell ⟨w.heap.size, 6, none⟩ (.int .u64 wv)).setCell ⟨w.heap.size, 7, none⟩ (.bool dv))) (Row.kept (w' := ((((((((((w3.setCell ⟨gC, 4, none⟩ (.int .u64 r3.e)).setCell ⟨gC, 5, none⟩ (.int .u64 r3.f)).setCell ⟨gC, 6, none⟩ (.slice r3.L.A r3.L.n r3.L.c)).setCell ⟨gC, 7, none⟩ (.slice r3.P.A r3.P.n r3.P.c)).setCell ⟨gC, 8, none⟩ (.int .u64 r3.h)).setCell ⟨gC, 9, none⟩ (.int .u64 r3.t)).setCell ⟨gC, 10, none⟩ (.slice r3.K.A r3.K.n r3.K.c)).setCell ⟨gC, 11, none⟩ (.slice r3.X.A r3.X.n r3.X.c)).setCell ⟨gC, 12, none⟩ (.slice r3.S.A r3.S.n r3.S.c)).setCell ⟨w.heap.size, 6, none⟩ (.int .u64 wv))) (Row.kept (w' := (((((((((w3.setCell ⟨gC, 4, none⟩ (.int .u64 r3.e)).setCell ⟨gC, 5, none⟩ (.int .u64 r3.f)).setCell ⟨gC, 6, none⟩ (.slice r3.L.A r3.L.n r3.L.c)).setCell ⟨gC, 7, none⟩ (.slice r3.P.A r3.P.n r3.P.c)).setCell ⟨gC, 8, none⟩ (.int .u64 r3.h)).setCell ⟨gC, 9, none⟩ (.int .u64 r3.t)).setCell ⟨gC, 10, none⟩ (.slice r3.K.A r3.K.n r3.K.c)).setCell ⟨gC, 11, none⟩ (.slice r3.X.A r3.X.n r3.X.c)).setCell ⟨gC, 12, none⟩ (.slice r3.S.A r3.S.n r3.S.c))) (Row.kept (w' := ((((((((w3.setCell ⟨gC, 4, none⟩ (.int .u64 r3.e)).setCell ⟨gC, 5, none⟩ (.int .u64 r3.f)).setCell ⟨gC, 6, none⟩ (.slice r3.L.A r3.L.n r3.L.c)).setCell ⟨gC, 7, none⟩ (.slice r3.P.A r3.P.n r3.P.c)).setCell ⟨gC, 8, none⟩ (.int .u64 r3.h)).setCell ⟨gC, 9, none⟩ (.int .u64 r3.t)).setCell ⟨gC, 10, none⟩ (.slice r3.K.A r3.K.n r3.K.c)).setCell ⟨gC, 11, none⟩ (.slice r3.X.A r3.X.n r3.X.c))) (Row.kept (w' := (((((((w3.setCell ⟨gC, 4, none⟩ (.int .u64 r3.e)).setCell ⟨gC, 5, none⟩ (.int .u64 r3.f)).setCell ⟨gC, 6, none⟩ (.slice r3.L.A r3.L.n r3.L.c)).setCell ⟨gC, 7, none⟩ (.slice r3.P.A r3.P.n r3.P.c)).setCell ⟨gC, 8, none⟩ (.int .u64 r3.h)).setCell ⟨gC, 9, none⟩ (.int .u64 r3.t)).setCell ⟨gC, 10, none⟩ (.slice r3.K.A r3.K.n r3.K.c))) (Row.kept (w' := ((((((w3.setCell ⟨gC, 4, none⟩ (.int .u64 r3.e)).setCell ⟨gC, 5, none⟩ (.int .u64 r3.f)).setCell ⟨gC, 6, none⟩ (.slice r3.L.A r3.L.n r3.L.c)).setCell ⟨gC, 7, none⟩ (.slice r3.P.A r3.P.n r3.P.c)).setCell ⟨gC, 8, none⟩ (.int .u64 r3.h)).setCell ⟨gC, 9, none⟩ (.int .u64 r3.t))) (Row.kept (w' := (((((w3.setCell ⟨gC, 4, none⟩ (.int .u64 r3.e)).setCell ⟨gC, 5, none⟩ (.int .u64 r3.f)).setCell ⟨gC, 6, none⟩ (.slice r3.L.A r3.L.n r3.L.c)).setCell ⟨gC, 7, none⟩ (.slice r3.P.A r3.P.n r3.P.c)).setCell ⟨gC, 8, none⟩ (.int .u64 r3.h))) (Row.kept (w' := ((((w3.setCell ⟨gC, 4, none⟩ (.int .u64 r3.e)).setCell ⟨gC, 5, none⟩ (.int .u64 r3.f)).setCell ⟨gC, 6, none⟩ (.slice r3.L.A r3.L.n r3.L.c)).setCell ⟨gC, 7, none⟩ (.slice r3.P.A r3.P.n r3.P.c))) (Row.kept (w' := (((w3.setCell ⟨gC, 4, none⟩ (.int .u64 r3.e)).setCell ⟨gC, 5, none⟩ (.int .u64 r3.f)).setCell ⟨gC, 6, none⟩ (.slice r3.L.A r3.L.n r3.L.c))) (Row.kept (w' := ((w3.setCell ⟨gC, 4, none⟩ (.int .u64 r3.e)).setCell ⟨gC, 5, none⟩ (.int .u64 r3.f))) (Row.kept (w' := (w3.setCell ⟨gC, 4, none⟩ (.int .u64 r3.e))) K1.out (fun g_ hg_ => Below.heap_setCell _ _ _ _ (HKC.out g_ hg_))) (fun g_ hg_ => Below.heap_setCell _ _ _ _ (HKC.out g_ hg_))) (fun g_ hg_ => Below.heap_setCell _ _ _ _ (HKC.out g_ hg_))) (fun g_ hg_ => Below.heap_setCell _ _ _ _ (HKC.out g_ hg_))) (fun g_ hg_ => Below.heap_setCell _ _ _ _ (HKC.out g_ hg_))) (fun g_ hg_ => Below.heap_setCell _ _ _ _ (HKC.out g_ hg_))) (fun g_ hg_ => Below.heap_setCell _ _ _ _ (HKC.out g_ hg_))) (fun g_ hg_ => Below.heap_setCell _ _ _ _ (HKC.out g_ hg_))) (fun g_ hg_ => Below.heap_setCell _ _ _ _ (HKC.out g_ hg_))) (fun g_ hg_ => Below.heap_setCell _ _ _ _ (HKX.out g_ hg_))) (fun g_ hg_ => Below.heap_setCell _ _ _ _ (HKX.out g_ hg_)))
  have R1_ := Lib.hid (Row.kept (w' := (((((((((((w3.setCell ⟨gC, 4, none⟩ (.int .u64 r3.e)).setCell ⟨gC, 5, none⟩ (.int .u64 r3.f)).setCell ⟨gC, 6, none⟩ (.slice r3.L.A r3.L.n r3.L.c)).setCell ⟨gC, 7, none⟩ (.slice r3.P.A r3.P.n r3.P.c)).setCell ⟨gC, 8, none⟩ (.int .u64 r3.h)).setCell ⟨gC, 9, none⟩ (.int .u64 r3.t)).setCell ⟨gC, 10, none⟩ (.slice r3.K.A r3.K.n r3.K.c)).setCell ⟨gC, 11, none⟩ (.slice r3.X.A r3.X.n r3.X.c)).setCell ⟨gC, 12, none⟩ (.slice r3.S.A r3.S.n r3.S.c)).setCell ⟨w.heap.size, 6, none⟩ (.int .u64 wv)).setCell ⟨w.heap.size, 7, none⟩ (.bool dv))) (Row.kept (w' := ((((((((((w3.setCell ⟨gC, 4, none⟩ (.int .u64 r3.e)).setCell ⟨gC, 5, none⟩ (.int .u64 r3.f)).setCell ⟨gC, 6, none⟩ (.slice r3.L.A r3.L.n r3.L.c)).setCell ⟨gC, 7, none⟩ (.slice r3.P.A r3.P.n r3.P.c)).setCell ⟨gC, 8, none⟩ (.int .u64 r3.h)).setCell ⟨gC, 9, none⟩ (.int .u64 r3.t)).setCell ⟨gC, 10, none⟩ (.slice r3.K.A r3.K.n r3.K.c)).setCell ⟨gC, 11, none⟩ (.slice r3.X.A r3.X.n r3.X.c)).setCell ⟨gC, 12, none⟩ (.slice r3.S.A r3.S.n r3.S.c)).setCell ⟨w.heap.size, 6, none⟩ (.int .u64 wv))) (Row.kept (w' := (((((((((w3.setCell ⟨gC, 4, none⟩ (.int .u64 r3.e)).setCell ⟨gC, 5, none⟩ (.int .u64 r3.f)).setCell ⟨gC, 6, none⟩ (.slice r3.L.A r3.L.n r3.L.c)).setCell ⟨gC, 7, none⟩ (.slice r3.P.A r3.P.n r3.P.c)).setCell ⟨gC, 8, none⟩ (.int .u64 r3.h)).setCell ⟨gC, 9, none⟩ (.int .u64 r3.t)).setCell ⟨gC, 10, none⟩ (.slice r3.K.A r3.K.n r3.K.c)).setCell ⟨gC, 11, none⟩ (.slice r3.X.A r3.X.n r3.X.c)).setCell ⟨gC, 12, none⟩ (.slice r3.S.A r3.S.n r3.S.c))) (Row.kept (w' := ((((((((w3.setCell ⟨gC, 4, none⟩ (.int .u64 r3.e)).setCell ⟨gC, 5, none⟩ (.int .u64 r3.f)).setCell ⟨gC, 6, none⟩ (.slice r3.L.A r3.L.n r3.L.c)).setCell ⟨gC, 7, none⟩ (.slice r3.P.A r3.P.n r3.P.c)).setCell ⟨gC, 8, none⟩ (.int .u64 r3.h)).setCell ⟨gC, 9, none⟩ (.int .u64 r3.t)).setCell ⟨gC, 10, none⟩ (.slice r3.K.A r3.K.n r3.K.c)).setCell ⟨gC, 11, none⟩ (.slice r3.X.A r3.X.n r3.X.c))) (Row.kept (w' := (((((((w3.setCell ⟨gC, 4, none⟩ (.int .u64 r3.e)).setCell ⟨gC, 5, none⟩ (.int .u64 r3.f)).setCell ⟨gC, 6, none⟩ (.slice r3.L.A r3.L.n r3.L.c)).setCell ⟨gC, 7, none⟩ (.slice r3.P.A r3.P.n r3.P.c)).setCell ⟨gC, 8, none⟩ (.int .u64 r3.h)).setCell ⟨gC, 9, none⟩ (.int .u64 r3.t)).setCell ⟨gC, 10, none⟩ (.slice r3.K.A r3.K.n r3.K.c))) (Row.kept (w' := ((((((w3.setCell ⟨gC, 4, none⟩ (.int .u64 r3.e)).setCell ⟨gC, 5, none⟩ (.int .u64 r3.f)).setCell ⟨gC, 6, none⟩ (.slice r3.L.A r3.L.n r3.L.c)).setCell ⟨gC, 7, none⟩ (.slice r3.P.A r3.P.n r3.P.c)).setCell ⟨gC, 8, none⟩ (.int .u64 r3.h)).setCell ⟨gC, 9, none⟩ (.int .u64 r3.t))) (Row.kept (w' := (((((w3.setCell ⟨gC, 4, none⟩ (.int .u64 r3.e)).setCell ⟨gC, 5, none⟩ (.int .u64 r3.f)).setCell ⟨gC, 6, none⟩ (.slice r3.L.A r3.L.n r3.L.c)).setCell ⟨gC, 7, none⟩ (.slice r3.P.A r3.P.n r3.P.c)).setCell ⟨gC, 8, none⟩ (.int .u64 r3.h))) (Row.kept (w' := ((((w3.setCell ⟨gC, 4, none⟩ (.int .u64 r3.e)).setCell ⟨gC, 5, none⟩ (.int .u64 r3.f)).setCell ⟨gC, 6, none⟩ (.slice r3.L.A r3.L.n r3.L.c)).setCell ⟨gC, 7, none⟩ (.slice r3.P.A r3.P.n r3.P.c))) (Row.kept (w' := (((w3.setCell ⟨gC, 4, none⟩ (.int .u64 r3.e)).setCell ⟨gC, 5, none⟩ (.int .u64 r3.f)).setCell ⟨gC, 6, none⟩ (.slice r3.L.A r3.L.n r3.L.c))) (Row.kept (w' := ((w3.setCell ⟨gC, 4, none⟩ (.int .u64 r3.e)).setCell ⟨gC, 5, none⟩ (.int .u64 r3.f))) (Row.kept (w' := (w3.setCell ⟨gC, 4, none⟩ (.int .u64 r3.e))) R1.out (fun g_ hg_ => Below.heap_setCell _ _ _ _ (HRC.out g_ hg_))) (fun g_ hg_ => Below.heap_setCell _ _ _ _ (HRC.out g_ hg_))) (fun g_ hg_ => Below.heap_setCell _ _ _ _ (HRC.out g_ hg_))) (fun g_ hg_ => Below.heap_setCell _ _ _ _ (HRC.out g_ hg_))) (fun g_ hg_ => Below.heap_setCell _ _ _ _ (HRC.out g_ hg_))) (fun g_ hg_ => Below.heap_setCell _ _ _ _ (HRC.out g_ hg_))) (fun g_ hg_ => Below.heap_setCell _ _ _ _ (HRC.out g_ hg_))) (fun g_ hg_ => Below.heap_setCell _ _ _ _ (HRC.out g_ hg_))) (fun g_ hg_ => Below.heap_setCell _ _ _ _ (HRC.out g_ hg_))) (fun g_ hg_ => Below.heap_setCell _ _ _ _ (HRX.out g_ hg_))) (fun g_ hg_ => Below.heap_setCell _ _ _ _ (HRX.out g_ hg_)))
  have E1_ := Lib.hid (Endw.kept (w' := (((((((((((w3.setCell ⟨gC, 4, none⟩ (.int .u64 r3.e)).setCell ⟨gC, 5, none⟩ (.int .u64 r3.f)).setCell ⟨gC, 6, none⟩ (.slice r3.L.A r3.L.n r3.L.c)).setCell ⟨gC, 7, none⟩ (.slice r3.P.A r3.P.n r3.P.c)).setCell ⟨gC, 8, none⟩ (.int .u64 r3.h)).setCell ⟨gC, 9, none⟩ (.int .u64 r3.t)).setCell ⟨gC, 10, none⟩ (.slice r3.K.A r3.K.n r3.K.c)).setCell ⟨gC, 11, none⟩ (.slice r3.X.A r3.X.n r3.X.c)).setCell ⟨gC, 12, none⟩ (.slice r3.S.A r3.S.n r3.S.c)).setCell ⟨w.heap.size, 6, none⟩ (.int .u64 wv)).setCell ⟨w.heap.size, 7, none⟩ (.bool dv))) (Endw.kept (w' := ((((((((((w3.setCell ⟨gC, 4, none⟩ (.int .u64 r3.e)).setCell ⟨gC, 5, none⟩ (.int .u64 r3.f)).setCell ⟨gC, 6, none⟩ (.slice r3.L.A r3.L.n r3.L.c)).setCell ⟨gC, 7, none⟩ (.slice r3.P.A r3.P.n r3.P.c)).setCell ⟨gC, 8, none⟩ (.int .u64 r3.h)).setCell ⟨gC, 9, none⟩ (.int .u64 r3.t)).setCell ⟨gC, 10, none⟩ (.slice r3.K.A r3.K.n r3.K.c)).setCell ⟨gC, 11, none⟩ (.slice r3.X.A r3.X.n r3.X.c)).setCell ⟨gC, 12, none⟩ (.slice r3.S.A r3.S.n r3.S.c)).setCell ⟨w.heap.size, 6, none⟩ (.int .u64 wv))) (Endw.kept (w' := (((((((((w3.setCell ⟨gC, 4, none⟩ (.int .u64 r3.e)).setCell ⟨gC, 5, none⟩ (.int .u64 r3.f)).setCell ⟨gC, 6, none⟩ (.slice r3.L.A r3.L.n r3.L.c)).setCell ⟨gC, 7, none⟩ (.slice r3.P.A r3.P.n r3.P.c)).setCell ⟨gC, 8, none⟩ (.int .u64 r3.h)).setCell ⟨gC, 9, none⟩ (.int .u64 r3.t)).setCell ⟨gC, 10, none⟩ (.slice r3.K.A r3.K.n r3.K.c)).setCell ⟨gC, 11, none⟩ (.slice r3.X.A r3.X.n r3.X.c)).setCell ⟨gC, 12, none⟩ (.slice r3.S.A r3.S.n r3.S.c))) (Endw.kept (w' := ((((((((w3.setCell ⟨gC, 4, none⟩ (.int .u64 r3.e)).setCell ⟨gC, 5, none⟩ (.int .u64 r3.f)).setCell ⟨gC, 6, none⟩ (.slice r3.L.A r3.L.n r3.L.c)).setCell ⟨gC, 7, none⟩ (.slice r3.P.A r3.P.n r3.P.c)).setCell ⟨gC, 8, none⟩ (.int .u64 r3.h)).setCell ⟨gC, 9, none⟩ (.int .u64 r3.t)).setCell ⟨gC, 10, none⟩ (.slice r3.K.A r3.K.n r3.K.c)).setCell ⟨gC, 11, none⟩ (.slice r3.X.A r3.X.n r3.X.c))) (Endw.kept (w' := (((((((w3.setCell ⟨gC, 4, none⟩ (.int .u64 r3.e)).setCell ⟨gC, 5, none⟩ (.int .u64 r3.f)).setCell ⟨gC, 6, none⟩ (.slice r3.L.A r3.L.n r3.L.c)).setCell ⟨gC, 7, none⟩ (.slice r3.P.A r3.P.n r3.P.c)).setCell ⟨gC, 8, none⟩ (.int .u64 r3.h)).setCell ⟨gC, 9, none⟩ (.int .u64 r3.t)).setCell ⟨gC, 10, none⟩ (.slice r3.K.A r3.K.n r3.K.c))) (Endw.kept (w' := ((((((w3.setCell ⟨gC, 4, none⟩ (.int .u64 r3.e)).setCell ⟨gC, 5, none⟩ (.int .u64 r3.f)).setCell ⟨gC, 6, none⟩ (.slice r3.L.A r3.L.n r3.L.c)).setCell ⟨gC, 7, none⟩ (.slice r3.P.A r3.P.n r3.P.c)).setCell ⟨gC, 8, none⟩ (.int .u64 r3.h)).setCell ⟨gC, 9, none⟩ (.int .u64 r3.t))) (Endw.kept (w' := (((((w3.setCell ⟨gC, 4, none⟩ (.int .u64 r3.e)).setCell ⟨gC, 5, none⟩ (.int .u64 r3.f)).setCell ⟨gC, 6, none⟩ (.slice r3.L.A r3.L.n r3.L.c)).setCell ⟨gC, 7, none⟩ (.slice r3.P.A r3.P.n r3.P.c)).setCell ⟨gC, 8, none⟩ (.int .u64 r3.h))) (Endw.kept (w' := ((((w3.setCell ⟨gC, 4, none⟩ (.int .u64 r3.e)).setCell ⟨gC, 5, none⟩ (.int .u64 r3.f)).setCell ⟨gC, 6, none⟩ (.slice r3.L.A r3.L.n r3.L.c)).setCell ⟨gC, 7, none⟩ (.slice r3.P.A r3.P.n r3.P.c))) (Endw.kept (w' := (((w3.setCell ⟨gC, 4, none⟩ (.int .u64 r3.e)).setCell ⟨gC, 5, none⟩ (.int .u64 r3.f)).setCell ⟨gC, 6, none⟩ (.slice r3.L.A r3.L.n r3.L.c))) (Endw.kept (w' := ((w3.setCell ⟨gC, 4, none⟩ (.int .u64 r3.e)).setCell ⟨gC, 5, none⟩ (.int .u64 r3.f))) (Endw.kept (w' := (w3.setCell ⟨gC, 4, none⟩ (.int .u64 r3.e))) E1.out (fun ar hl_ ad_ ha_ => Below.heap_setCell _ _ _ _ (HEC.out ar hl_ ad_ ha_))) (fun ar hl_ ad_ ha_ => Below.heap_setCell _ _ _ _ (HEC.out ar hl_ ad_ ha_))) (fun ar hl_ ad_ ha_ => Below.heap_setCell _ _ _ _ (HEC.out ar hl_ ad_ ha_))) (fun ar hl_ ad_ ha_ => Below.heap_setCell _ _ _ _ (HEC.out ar hl_ ad_ ha_))) (fun ar hl_ ad_ ha_ => Below.heap_setCell _ _ _ _ (HEC.out ar hl_ ad_ ha_))) (fun ar hl_ ad_ ha_ => Below.heap_setCell _ _ _ _ (HEC.out ar hl_ ad_ ha_))) (fun ar hl_ ad_ ha_ => Below.heap_setCell _ _ _ _ (HEC.out ar hl_ ad_ ha_))) (fun ar hl_ ad_ ha_ => Below.heap_setCell _ _ _ _ (HEC.out ar hl_ ad_ ha_))) (fun ar hl_ ad_ ha_ => Below.heap_setCell _ _ _ _ (HEC.out ar hl_ ad_ ha_))) (fun ar hl_ ad_ ha_ => Below.heap_setCell _ _ _ _ (HEX.out ar hl_ ad_ ha_))) (fun ar hl_ ad_ ha_ => Below.heap_setCell _ _ _ _ (HEX.out ar hl_ ad_ ha_)))
  have Q1_ := Lib.hid (Blk.far (Blk.far (Blk.far (Blk.far (Blk.far (Blk.far (Blk.far (Blk.far (Blk.far (Blk.far (Blk.far Q1.out (p := ⟨gC, 4, none⟩) hPC (.int .u64 r3.e)) (p := ⟨gC, 5, none⟩) hPC (.int .u64 r3.f)) (p := ⟨gC, 6, none⟩) hPC (.slice r3.L.A r3.L.n r3.L.c)) (p := ⟨gC, 7, none⟩) hPC (.slice r3.P.A r3.P.n r3.P.c)) (p := ⟨gC, 8, none⟩) hPC (.int .u64 r3.h)) (p := ⟨gC, 9, none⟩) hPC (.int .u64 r3.t)) (p := ⟨gC, 10, none⟩) hPC (.slice r3.K.A r3.K.n r3.K.c)) (p := ⟨gC, 11, none⟩) hPC (.slice r3.X.A r3.X.n r3.X.c)) (p := ⟨gC, 12, none⟩) hPC (.slice r3.S.A r3.S.n r3.S.c)) (p := ⟨w.heap.size, 6, none⟩) hPX (.int .u64 wv)) (p := ⟨w.heap.size, 7, none⟩) hPX (.bool dv))
  have F1_ := Lib.hid (Row.kept (w' := (((((((((((w3.setCell ⟨gC, 4, none⟩ (.int .u64 r3.e)).setCell ⟨gC, 5, none⟩ (.int .u64 r3.f)).setCell ⟨gC, 6, none⟩ (.slice r3.L.A r3.L.n r3.L.c)).setCell ⟨gC, 7, none⟩ (.slice r3.P.A r3.P.n r3.P.c)).setCell ⟨gC, 8, none⟩ (.int .u64 r3.h)).setCell ⟨gC, 9, none⟩ (.int .u64 r3.t)).setCell ⟨gC, 10, none⟩ (.slice r3.K.A r3.K.n r3.K.c)).setCell ⟨gC, 11, none⟩ (.slice r3.X.A r3.X.n r3.X.c)).setCell ⟨gC, 12, none⟩ (.slice r3.S.A r3.S.n r3.S.c)).setCell ⟨w.heap.size, 6, none⟩ (.int .u64 wv)).setCell ⟨w.heap.size, 7, none⟩ (.bool dv))) (Row.kept (w' := ((((((((((w3.setCell ⟨gC, 4, none⟩ (.int .u64 r3.e)).setCell ⟨gC, 5, none⟩ (.int .u64 r3.f)).setCell ⟨gC, 6, none⟩ (.slice r3.L.A r3.L.n r3.L.c)).setCell ⟨gC, 7, none⟩ (.slice r3.P.A r3.P.n r3.P.c)).setCell ⟨gC, 8, none⟩ (.int .u64 r3.h)).setCell ⟨gC, 9, none⟩ (.int .u64 r3.t)).setCell ⟨gC, 10, none⟩ (.slice r3.K.A r3.K.n r3.K.c)).setCell ⟨gC, 11, none⟩ (.slice r3.X.A r3.X.n r3.X.c)).setCell ⟨gC, 12, none⟩ (.slice r3.S.A r3.S.n r3.S.c)).setCell ⟨w.heap.size, 6, none⟩ (.int .u64 wv))) (Row.kept (w' := (((((((((w3.setCell ⟨gC, 4, none⟩ (.int .u64 r3.e)).setCell ⟨gC, 5, none⟩ (.int .u64 r3.f)).setCell ⟨gC, 6, none⟩ (.slice r3.L.A r3.L.n r3.L.c)).setCell ⟨gC, 7, none⟩ (.slice r3.P.A r3.P.n r3.P.c)).setCell ⟨gC, 8, none⟩ (.int .u64 r3.h)).setCell ⟨gC, 9, none⟩ (.int .u64 r3.t)).setCell ⟨gC, 10, none⟩ (.slice r3.K.A r3.K.n r3.K.c)).setCell ⟨gC, 11, none⟩ (.slice r3.X.A r3.X.n r3.X.c)).setCell ⟨gC, 12, none⟩ (.slice r3.S.A r3.S.n r3.S.c))) (Row.kept (w' := ((((((((w3.setCell ⟨gC, 4, none⟩ (.int .u64 r3.e)).setCell ⟨gC, 5, none⟩ (.int .u64 r3.f)).setCell ⟨gC, 6, none⟩ (.slice r3.L.A r3.L.n r3.L.c)).setCell ⟨gC, 7, none⟩ (.slice r3.P.A r3.P.n r3.P.c)).setCell ⟨gC, 8, none⟩ (.int .u64 r3.h)).setCell ⟨gC, 9, none⟩ (.int .u64 r3.t)).setCell ⟨gC, 10, none⟩ (.slice r3.K.A r3.K.n r3.K.c)).setCell ⟨gC, 11, none⟩ (.slice r3.X.A r3.X.n r3.X.c))) (Row.kept (w' := (((((((w3.setCell ⟨gC, 4, none⟩ (.int .u64 r3.e)).setCell ⟨gC, 5, none⟩ (.int .u64 r3.f)).setCell ⟨gC, 6, none⟩ (.slice r3.L.A r3.L.n r3.L.c)).setCell ⟨gC, 7, none⟩ (.slice r3.P.A r3.P.n r3.P.c)).setCell ⟨gC, 8, none⟩ (.int .u64 r3.h)).setCell ⟨gC, 9, none⟩ (.int .u64 r3.t)).setCell ⟨gC, 10, none⟩ (.slice r3.K.A r3.K.n r3.K.c))) (Row.kept (w' := ((((((w3.setCell ⟨gC, 4, none⟩ (.int .u64 r3.e)).setCell ⟨gC, 5, none⟩ (.int .u64 r3.f)).setCell ⟨gC, 6, none⟩ (.slice r3.L.A r3.L.n r3.L.c)).setCell ⟨gC, 7, none⟩ (.slice r3.P.A r3.P.n r3.P.c)).setCell ⟨gC, 8, none⟩ (.int .u64 r3.h)).setCell ⟨gC, 9, none⟩ (.int .u64 r3.t))) (Row.kept (w' := (((((w3.setCell ⟨gC, 4, none⟩ (.int .u64 r3.e)).setCell ⟨gC, 5, none⟩ (.int .u64 r3.f)).setCell ⟨gC, 6, none⟩ (.slice r3.L.A r3.L.n r3.L.c)).setCell ⟨gC, 7, none⟩ (.slice r3.P.A r3.P.n r3.P.c)).setCell ⟨gC, 8, none⟩ (.int .u64 r3.h))) (Row.kept (w' := ((((w3.setCell ⟨gC, 4, none⟩ (.int .u64 r3.e)).setCell ⟨gC, 5, none⟩ (.int .u64 r3.f)).setCell ⟨gC, 6, none⟩ (.slice r3.L.A r3.L.n r3.L.c)).setCell ⟨gC, 7, none⟩ (.slice r3.P.A r3.P.n r3.P.c))) (Row.kept (w' := (((w3.setCell ⟨gC, 4, none⟩ (.int .u64 r3.e)).setCell ⟨gC, 5, none⟩ (.int .u64 r3.f)).setCell ⟨gC, 6, none⟩ (.slice r3.L.A r3.L.n r3.L.c))) (Row.kept (w' := ((w3.setCell ⟨gC, 4, none⟩ (.int .u64 r3.e)).setCell ⟨gC, 5, none⟩ (.int .u64 r3.f))) (Row.kept (w' := (w3.setCell ⟨gC, 4, none⟩ (.int .u64 r3.e))) F1.out (fun g_ hg_ => Below.heap_setCell _ _ _ _ (HFC.out g_ hg_))) (fun g_ hg_ => Below.heap_setCell _ _ _ _ (HFC.out g_ hg_))) (fun g_ hg_ => Below.heap_setCell _ _ _ _ (HFC.out g_ hg_))) (fun g_ hg_ => Below.heap_setCell _ _ _ _ (HFC.out g_ hg_))) (fun g_ hg_ => Below.heap_setCell _ _ _ _ (HFC.out g_ hg_))) (fun g_ hg_ => Below.heap_setCell _ _ _ _ (HFC.out g_ hg_))) (fun g_ hg_ => Below.heap_setCell _ _ _ _ (HFC.out g_ hg_))) (fun g_ hg_ => Below.heap_setCell _ _ _ _ (HFC.out g_ hg_))) (fun g_ hg_ => Below.heap_setCell _ _ _ _ (HFC.out g_ hg_))) (fun g_ hg_ => Below.heap_setCell _ _ _ _ (HFX.out g_ hg_))) (fun g_ hg_ => Below.heap_setCell _ _ _ _ (HFX.out g_ hg_)))
  have L1_ := Lib.hid (show Kept (((((((((((w3.setCell ⟨gC, 4, none⟩ (.int .u64 r3.e)).setCell ⟨gC, 5, none⟩ (.int .u64 r3.f)).setCell ⟨gC, 6, none⟩ (.slice r3.L.A r3.L.n r3.L.c)).setCell ⟨gC, 7, none⟩ (.slice r3.P.A r3.P.n r3.P.c)).setCell ⟨gC, 8, none⟩ (.int .u64 r3.h)).setCell ⟨gC, 9, none⟩ (.int .u64 r3.t)).setCell ⟨gC, 10, none⟩ (.slice r3.K.A r3.K.n r3.K.c)).setCell ⟨gC, 11, none⟩ (.slice r3.X.A r3.X.n r3.X.c)).setCell ⟨gC, 12, none⟩ (.slice r3.S.A r3.S.n r3.S.c)).setCell ⟨w.heap.size, 6, none⟩ (.int .u64 wv)).setCell ⟨w.heap.size, 7, none⟩ (.bool dv)) l from fun x_ hx_ => (Blk.far (Blk.far (Blk.far (Blk.far (Blk.far (Blk.far (Blk.far (Blk.far (Blk.far (Blk.far (Blk.far (L1.out x_ hx_) (p := ⟨gC, 4, none⟩) (HLC.out x_ hx_) (.int .u64 r3.e)) (p := ⟨gC, 5, none⟩) (HLC.out x_ hx_) (.int .u64 r3.f)) (p := ⟨gC, 6, none⟩) (HLC.out x_ hx_) (.slice r3.L.A r3.L.n r3.L.c)) (p := ⟨gC, 7, none⟩) (HLC.out x_ hx_) (.slice r3.P.A r3.P.n r3.P.c)) (p := ⟨gC, 8, none⟩) (HLC.out x_ hx_) (.int .u64 r3.h)) (p := ⟨gC, 9, none⟩) (HLC.out x_ hx_) (.int .u64 r3.t)) (p := ⟨gC, 10, none⟩) (HLC.out x_ hx_) (.slice r3.K.A r3.K.n r3.K.c)) (p := ⟨gC, 11, none⟩) (HLC.out x_ hx_) (.slice r3.X.A r3.X.n r3.X.c)) (p := ⟨gC, 12, none⟩) (HLC.out x_ hx_) (.slice r3.S.A r3.S.n r3.S.c)) (p := ⟨w.heap.size, 6, none⟩) (HLX.out x_ hx_) (.int .u64 wv)) (p := ⟨w.heap.size, 7, none⟩) (HLX.out x_ hx_) (.bool dv)))
  have O1_ := Lib.hid (Only.set_ (Only.set_ (Only.set_ (Only.set_ (Only.set_ (Only.set_ (Only.set_ (Only.set_ (Only.set_ (Only.set_ (Only.set_ O1.out ⟨gC, 4, none⟩ (.inl (.inl (.inr (.inl rfl)))) (.int .u64 r3.e)) ⟨gC, 5, none⟩ (.inl (.inl (.inr (.inl rfl)))) (.int .u64 r3.f)) ⟨gC, 6, none⟩ (.inl (.inl (.inr (.inl rfl)))) (.slice r3.L.A r3.L.n r3.L.c)) ⟨gC, 7, none⟩ (.inl (.inl (.inr (.inl rfl)))) (.slice r3.P.A r3.P.n r3.P.c)) ⟨gC, 8, none⟩ (.inl (.inl (.inr (.inl rfl)))) (.int .u64 r3.h)) ⟨gC, 9, none⟩ (.inl (.inl (.inr (.inl rfl)))) (.int .u64 r3.t)) ⟨gC, 10, none⟩ (.inl (.inl (.inr (.inl rfl)))) (.slice r3.K.A r3.K.n r3.K.c)) ⟨gC, 11, none⟩ (.inl (.inl (.inr (.inl rfl)))) (.slice r3.X.A r3.X.n r3.X.c)) ⟨gC, 12, none⟩ (.inl (.inl (.inr (.inl rfl)))) (.slice r3.S.A r3.S.n r3.S.c)) ⟨w.heap.size, 6, none⟩ (.inr (Nat.le_refl _)) (.int .u64 wv)) ⟨w.heap.size, 7, none⟩ (.inr (Nat.le_refl _)) (.bool dv))
  clear C1 T1 X1 K1 R1 E1 Q1 F1 L1 O1
  have C1 := Lib.hid C1_.out
  have T1 := Lib.hid T1_.out
  have X1 := Lib.hid X1_.out
  have K1 := Lib.hid K1_.out
  have R1 := Lib.hid R1_.out
  have E1 := Lib.hid E1_.out
  have Q1 := Lib.hid Q1_.out
  have F1 := Lib.hid F1_.out
  have L1 := Lib.hid L1_.out
  have O1 := Lib.hid O1_.out
  clear C1_ T1_ X1_ K1_ R1_ E1_ Q1_ F1_ L1_ O1_
  generalize (((((((((((w3.setCell ⟨gC, 4, none⟩ (.int .u64 r3.e)).setCell ⟨gC, 5, none⟩ (.int .u64 r3.f)).setCell ⟨gC, 6, none⟩ (.slice r3.L.A r3.L.n r3.L.c)).setCell ⟨gC, 7, none⟩ (.slice r3.P.A r3.P.n r3.P.c)).setCell ⟨gC, 8, none⟩ (.int .u64 r3.h)).setCell ⟨gC, 9, none⟩ (.int .u64 r3.t)).setCell ⟨gC, 10, none⟩ (.slice r3.K.A r3.K.n r3.K.c)).setCell ⟨gC, 11, none⟩ (.slice r3.X.A r3.X.n r3.X.c)).setCell ⟨gC, 12, none⟩ (.slice r3.S.A r3.S.n r3.S.c)).setCell ⟨w.heap.size, 6, none⟩ (.int .u64 wv)).setCell ⟨w.heap.size, 7, none⟩ (.bool dv)) = V3 at C1 T1 X1 K1 R1 E1 Q1 F1 L1 O1 ⊢
  have hbV3 : base ≤ V3.heap.size := Nat.le_trans hbase O1.out.size
  obtain ⟨j0, hj0, hjz0, hjz1, hjz2⟩ := info_parts step_cell
  have SR := Lib.hid (And.intro hj0 (And.intro hjz0 (And.intro hjz1 hjz2)))
  clear hj0 hjz0 hjz1 hjz2
  have hzC3 := C1.out.lt
  have hzX3 := X1.out.lt
  have C1 := Lib.hid C1.out
  have hc := C1.out.cell
  have hcf := C1.out.frozen
  have hx := X1.out.cell
  go_wp2_with fail
  refine Zreg.begin_ (S := (fun w' => (∀ j, w'.cell? ⟨gC, j, none⟩ = (#[.func (.func B) #[] bs, .slice th.A th.n th.c, .slice sS.A sS.n sS.c, .slice sK.A sK.n sK.c, .int .u64 r3.e, .int .u64 r3.f, .slice r3.L.A r3.L.n r3.L.c, .slice r3.P.A r3.P.n r3.P.c, .int .u64 r3.h, .int .u64 r3.t, .slice r3.K.A r3.K.n r3.K.c, .slice r3.X.A r3.X.n r3.X.c, .slice r3.S.A r3.S.n r3.S.c] : Array Value)[j]?) ∧ (∀ j, w'.cell? ⟨w.heap.size, j, none⟩ = (#[.int .i64 i, .int .i64 a.d, .int .i64 a.ar, .int .i64 a.at_, .int .u64 a.old, .int .u64 a.new, .int .u64 wv, .bool dv] : Array Value)[j]?))) (zs := [12]) (by kernel_rfl) ?_
  show Zreg.After _ _ _ _ _ _ 13 #[false, false, false, false, false, false, false, false, false, false, false, false, false] _ _
  refine Zreg.takeP 0 34 (x := ?xc_0) rfl rfl (by kernel_rfl) (by kernel_rfl) (by kernel_rfl) (by kernel_rfl) (fun _ _ _ h => h) (.inr ⟨C1.out.cell, X1.out.cell⟩) (Or.inl ⟨by rfl, ?yc_0⟩) ?rc_0
  case yc_0 => (intro w _; go_simp <;> with_reducible rfl)
  simp only [List.setIfInBounds_toArray, List.set_cons_zero, List.set_cons_succ]
  refine Zreg.takeP 1 35 (x := ?xc_1) rfl rfl (by kernel_rfl) (by kernel_rfl) (by kernel_rfl) (by kernel_rfl) (fun _ _ _ h => h) (.inr ⟨C1.out.cell, X1.out.cell⟩) (Or.inl ⟨by rfl, ?yc_1⟩) ?rc_1
  case yc_1 => (intro w _; go_simp <;> with_reducible rfl)
  simp only [List.setIfInBounds_toArray, List.set_cons_zero, List.set_cons_succ]
  refine Zreg.takeP 2 36 (x := ?xc_2) rfl rfl (by kernel_rfl) (by kernel_rfl) (by kernel_rfl) (by kernel_rfl) (fun _ _ _ h => h) (.inr ⟨C1.out.cell, X1.out.cell⟩) (Or.inl ⟨by rfl, ?yc_2⟩) ?rc_2
  case yc_2 => (intro w _; go_simp <;> with_reducible rfl)
  simp only [List.setIfInBounds_toArray, List.set_cons_zero, List.set_cons_succ]
  refine Zreg.takeP 3 37 (x := ?xc_3) rfl rfl (by kernel_rfl) (by kernel_rfl) (by kernel_rfl) (by kernel_rfl) (fun _ _ _ h => h) (.inr ⟨C1.out.cell, X1.out.cell⟩) (Or.inl ⟨by rfl, ?yc_3⟩) ?rc_3
  case yc_3 => (intro w _; go_simp <;> with_reducible rfl)
  simp only [List.setIfInBounds_toArray, List.set_cons_zero, List.set_cons_succ]
  refine Zreg.takeP 4 38 (x := ?xc_4) rfl rfl (by kernel_rfl) (by kernel_rfl) (by kernel_rfl) (by kernel_rfl) (fun _ _ _ h => h) (.inr ⟨C1.out.cell, X1.out.cell⟩) (Or.inl ⟨by rfl, ?yc_4⟩) ?rc_4
  case yc_4 => (intro w _; go_simp <;> with_reducible rfl)
  simp only [List.setIfInBounds_toArray, List.set_cons_zero, List.set_cons_succ]
  refine Zreg.takeS 5 39 (x := ?xc_5) rfl rfl (by kernel_rfl) (by kernel_rfl) (by kernel_rfl) (by kernel_rfl) (by kernel_rfl) (by kernel_rfl) (fun _ _ _ h => h) (.inr ⟨C1.out.cell, X1.out.cell⟩) (Or.inl ⟨by rfl, ?yc_5⟩) ?rc_5
  case yc_5 => (intro w hSw; (try dsimp only at hSw); go_simp <;> with_reducible rfl)
  simp only [List.setIfInBounds_toArray, List.set_cons_zero, List.set_cons_succ]
  refine Zreg.takeS 6 40 (x := ?xc_6) rfl rfl (by kernel_rfl) (by kernel_rfl) (by kernel_rfl) (by kernel_rfl) (by kernel_rfl) (by kernel_rfl) (fun _ _ _ h => h) (.inr ⟨C1.out.cell, X1.out.cell⟩) (Or.inl ⟨by rfl, ?yc_6⟩) ?rc_6
  case yc_6 => (intro w hSw; (try dsimp only at hSw); go_simp <;> with_reducible rfl)
  simp only [List.setIfInBounds_toArray, List.set_cons_zero, List.set_cons_succ]
  refine Zreg.one 7 (by kernel_rfl) rfl rfl fun K hK => ?_
  go_simp
  refine hK.out _ _ (.inr ⟨(C1.out.alloc _).cell, (X1.out.alloc _).cell⟩) fun _ => ?_
  clear hK
  simp only [List.setIfInBounds_toArray, List.set_cons_zero, List.set_cons_succ]
  refine Zreg.one 8 (by kernel_rfl) rfl rfl fun K hK => ?_
  refine wp_app1 (.tmp 39) (.tmp 41) 28 rfl base 59 j0 _ 8 64 Try.underlying28 SR.out.1 SR.out.2.1 SR.out.2.2.1 SR.out.2.2.2 rfl (by decide) sS nS ys (by simp [Act.eval]) (Row.alloc R1.out _) V3.heap.size [.int .i64 i, .int .i64 a.d, .int .i64 a.ar, .int .i64 a.at_, .int .u64 a.old, .int .u64 a.new, .int .u64 wv, .bool dv] (by simp [Act.eval]) rfl (fun j u hj => (Blk.cell (blk_at rfl) j).trans (by simpa using hj)) (by simp [Value.oneCell']) (by omega) (by decide) (by simp; omega) ?_
  intro s1 w5 hr5 ho5
  clear hc hcf hx
  have C1_ := Lib.hid (Blk.only (C1.out.alloc (.cells #[.int .i64 i, .int .i64 a.d, .int .i64 a.ar, .int .i64 a.at_, .int .u64 a.old, .int .u64 a.new, .int .u64 wv, .bool dv] 59)).drew ho5 (fun hg => HRC.out _ hg rfl))
  have T1_ := Lib.hid (Blk.only (T1.out.alloc (.cells #[.int .i64 i, .int .i64 a.d, .int .i64 a.ar, .int .i64 a.at_, .int .u64 a.old, .int .u64 a.new, .int .u64 wv, .bool dv] 59)).drew ho5 (fun hg => Row.ne R1.out T1.out (by decide) _ hg rfl))
  have X1_ := Lib.hid (Blk.only (X1.out.alloc (.cells #[.int .i64 i, .int .i64 a.d, .int .i64 a.ar, .int .i64 a.at_, .int .u64 a.old, .int .u64 a.new, .int .u64 wv, .bool dv] 59)).drew ho5 (fun hg => HRX.out _ hg rfl))
  have K1_ := Lib.hid ((K1.out.alloc (.cells #[.int .i64 i, .int .i64 a.d, .int .i64 a.ar, .int .i64 a.at_, .int .u64 a.old, .int .u64 a.new, .int .u64 wv, .bool dv] 59)).drew.only ho5 (fun g hg hb => Row.ne_row R1.out K1.out (by decide) g hb g hg rfl))
  have Q1_ := Lib.hid (Blk.only (Q1.out.alloc (.cells #[.int .i64 i, .int .i64 a.d, .int .i64 a.ar, .int .i64 a.at_, .int .u64 a.old, .int .u64 a.new, .int .u64 wv, .bool dv] 59)).drew ho5 (fun hg => Row.ne R1.out Q1.out (by decide) _ hg rfl))
  have F1_ := Lib.hid ((F1.out.alloc (.cells #[.int .i64 i, .int .i64 a.d, .int .i64 a.ar, .int .i64 a.at_, .int .u64 a.old, .int .u64 a.new, .int .u64 wv, .bool dv] 59)).drew.only ho5 (fun g hg hb => Row.ne_row R1.out F1.out (by decide) g hb g hg rfl))
  have L1_ : Hid (Kept w5 l) := Lib.hid (fun x hx => Blk.only ((L1.out x hx).alloc (.cells #[.int .i64 i, .int .i64 a.d, .int .i64 a.ar, .int .i64 a.at_, .int .u64 a.old, .int .u64 a.new, .int .u64 wv, .bool dv] 59)).drew ho5 (fun hg => Row.ne R1.out (L1.out x hx) (Ne.symm (HSF.out x hx).2.2.2.2.1) _ hg rfl))
  have HES : Hid (∀ ar, la ar → ∀ ad, (r3.sl ar).A = some ad → ¬ bl sS ad.block) := Lib.hid (fun ar hl ad ha hb => by obtain ⟨ds, hd⟩ := R1.out.blk hb; exact Endw.ne E1.out hd (by decide) (by decide) ar hl ad ha rfl)
  have E1_ := Lib.hid ((E1.out.alloc (.cells #[.int .i64 i, .int .i64 a.d, .int .i64 a.ar, .int .i64 a.at_, .int .u64 a.old, .int .u64 a.new, .int .u64 wv, .bool dv] 59)).drew.only ho5 HES.out)
  have O1_ := Lib.hid ((O1.out.alloc (.cells #[.int .i64 i, .int .i64 a.d, .int .i64 a.ar, .int .i64 a.at_, .int .u64 a.old, .int .u64 a.new, .int .u64 wv, .bool dv] 59)).drew.next ho5 (fun k _ h => .inr (.inl h)))
  have R1_ := Lib.hid hr5
  clear hr5 ho5 HES C1 T1 X1 K1 Q1 F1 L1 E1 O1 R1
  have C1 := Lib.hid C1_.out
  have T1 := Lib.hid T1_.out
  have X1 := Lib.hid X1_.out
  have K1 := Lib.hid K1_.out
  have Q1 := Lib.hid Q1_.out
  have F1 := Lib.hid F1_.out
  have L1 := Lib.hid L1_.out
  have E1 := Lib.hid E1_.out
  have O1 := Lib.hid O1_.out
  have R1 := Lib.hid R1_.out
  clear C1_ T1_ X1_ K1_ Q1_ F1_ L1_ E1_ O1_ R1_
  have hc := C1.out.cell
  have hcf := C1.out.frozen
  refine hK.out _ _ (.inr ⟨C1.out.cell, X1.out.cell⟩) fun _ => ?_
  clear hK
  try simp only [Act.put, List.setIfInBounds_toArray, List.set_cons_zero, List.set_cons_succ]
  refine Zreg.takeP 9 43 (x := ?xc_9) rfl rfl (by kernel_rfl) (by kernel_rfl) (by kernel_rfl) (by kernel_rfl) (fun _ _ _ h => h) (.inr ⟨C1.out.cell, X1.out.cell⟩) (Or.inl ⟨by rfl, ?yc_9⟩) ?rc_9
  case yc_9 => (intro w _; go_simp <;> with_reducible rfl)
  simp only [List.setIfInBounds_toArray, List.set_cons_zero, List.set_cons_succ]
  refine Zreg.takeP 10 44 (x := ?xc_10) rfl rfl (by kernel_rfl) (by kernel_rfl) (by kernel_rfl) (by kernel_rfl) (fun _ _ _ h => h) (.inr ⟨C1.out.cell, X1.out.cell⟩) (Or.inl ⟨by rfl, ?yc_10⟩) ?rc_10
  case yc_10 => (intro w _; go_simp <;> with_reducible rfl)
  simp only [List.setIfInBounds_toArray, List.set_cons_zero, List.set_cons_succ]
  refine Zreg.takeP 11 45 (x := ?xc_11) rfl rfl (by kernel_rfl) (by kernel_rfl) (by kernel_rfl) (by kernel_rfl) (fun _ _ _ h => h) (.inr ⟨C1.out.cell, X1.out.cell⟩) (Or.inl ⟨by rfl, ?yc_11⟩) ?rc_11
  case yc_11 => (intro w _; go_simp <;> with_reducible rfl)
  simp only [List.setIfInBounds_toArray, List.set_cons_zero, List.set_cons_succ]
  refine Zreg.one 12 (by kernel_rfl) rfl rfl fun K hK => ?_
  go_simp
  refine hK.out _ _ (.inl (by kernel_rfl)) fun _ => ?_
  clear hK
  simp only [List.setIfInBounds_toArray, List.set_cons_zero, List.set_cons_succ]
  refine Zreg.done (by kernel_rfl) ?_ _
  have HRC1 := Lib.hid (Row.ne R1.out C1.out (by decide))
  clear hc hcf
  have C1_ : Hid (Blk (w5.setCell ⟨gC, 2, none⟩ (.slice s1.A s1.n s1.c)) gC 102 #[.func (.func B) #[] bs, .slice th.A th.n th.c, .slice s1.A s1.n s1.c, .slice sK.A sK.n sK.c, .int .u64 r3.e, .int .u64 r3.f, .slice r3.L.A r3.L.n r3.L.c, .slice r3.P.A r3.P.n r3.P.c, .int .u64 r3.h, .int .u64 r3.t, .slice r3.K.A r3.K.n r3.K.c, .slice r3.X.A r3.X.n r3.X.c, .slice r3.S.A r3.S.n r3.S.c]) := Lib.hid (by have h_ := (Blk.set_ C1.out 2 (.slice s1.A s1.n s1.c)); simpa only [List.setIfInBounds_toArray, List.set_cons_zero, List.set_cons_succ] using h_)
  have T1_ := Lib.hid (Blk.far T1.out (p := ⟨gC, 2, none⟩) hTC (.slice s1.A s1.n s1.c))
  have X1_ := Lib.hid (Blk.far X1.out (p := ⟨gC, 2, none⟩) hXC (.slice s1.A s1.n s1.c))
  have K1_ := Lib.hid (Row.kept (w' := (w5.setCell ⟨gC, 2, none⟩ (.slice s1.A s1.n s1.c))) K1.out (fun g_ hg_ => Below.heap_setCell _ _ _ _ (HKC.out g_ hg_)))
  have R1_ := Lib.hid (Row.kept (w' := (w5.setCell ⟨gC, 2, none⟩ (.slice s1.A s1.n s1.c))) R1.out (fun g_ hg_ => Below.heap_setCell _ _ _ _ (HRC1.out g_ hg_)))
  have E1_ := Lib.hid (Endw.kept (w' := (w5.setCell ⟨gC, 2, none⟩ (.slice s1.A s1.n s1.c))) E1.out (fun ar hl_ ad_ ha_ => Below.heap_setCell _ _ _ _ (HEC.out ar hl_ ad_ ha_)))
  have Q1_ := Lib.hid (Blk.far Q1.out (p := ⟨gC, 2, none⟩) hPC (.slice s1.A s1.n s1.c))
  have F1_ := Lib.hid (Row.kept (w' := (w5.setCell ⟨gC, 2, none⟩ (.slice s1.A s1.n s1.c))) F1.out (fun g_ hg_ => Below.heap_setCell _ _ _ _ (HFC.out g_ hg_)))
  have L1_ := Lib.hid (show Kept (w5.setCell ⟨gC, 2, none⟩ (.slice s1.A s1.n s1.c)) l from fun x_ hx_ => (Blk.far (L1.out x_ hx_) (p := ⟨gC, 2, none⟩) (HLC.out x_ hx_) (.slice s1.A s1.n s1.c)))
  have O1_ := Lib.hid (Only.set_ O1.out ⟨gC, 2, none⟩ (.inl (.inl (.inr (.inl rfl)))) (.slice s1.A s1.n s1.c))
  clear C1 T1 X1 K1 R1 E1 Q1 F1 L1 O1
  have C1 := Lib.hid C1_.out
  have T1 := Lib.hid T1_.out
  have X1 := Lib.hid X1_.out
  have K1 := Lib.hid K1_.out
  have R1 := Lib.hid R1_.out
  have E1 := Lib.hid E1_.out
  have Q1 := Lib.hid Q1_.out
  have F1 := Lib.hid F1_.out
  have L1 := Lib.hid L1_.out
  have O1 := Lib.hid O1_.out
  clear C1_ T1_ X1_ K1_ R1_ E1_ Q1_ F1_ L1_ O1_
  generalize (w5.setCell ⟨gC, 2, none⟩ (.slice s1.A s1.n s1.c)) = V5 at C1 T1 X1 K1 R1 E1 Q1 F1 L1 O1 ⊢
  have hct := (T1.out.cell (o + 1)).trans HE1.out
  have hxx := X1.out.cell
  have hm := method_next ⟨P, 0, none⟩
  go_wp2_with fail
  have hbV5 : base ≤ V5.drew.heap.size := Nat.le_trans hbase O1.out.size
  have HSZ : Hid (w.heap.size ≤ V5.drew.heap.size) := Lib.hid O1.out.size
  refine Zreg.begin_ (S := (fun w' => w'.cell? ⟨gT, o + 1, none⟩ = some (.iface 123 (.pointer (some ⟨P, 0, none⟩))) ∧ (∀ j, w'.cell? ⟨w.heap.size, j, none⟩ = (#[.int .i64 i, .int .i64 a.d, .int .i64 a.ar, .int .i64 a.at_, .int .u64 a.old, .int .u64 a.new, .int .u64 wv, .bool dv] : Array Value)[j]?))) (zs := [16]) (by kernel_rfl) ?_
  show Zreg.After _ _ _ _ _ _ 20 #[false, false, false, false, false, false, false, false, false, false, false, false, false, false, false, false, false, false, false, false] _ _
  refine Zreg.takeP 0 47 (x := ?xd_0) rfl rfl (by kernel_rfl) (by kernel_rfl) (by kernel_rfl) (by kernel_rfl) (fun _ _ _ h => h) (.inr ⟨(T1.out.cell _).trans HE1.out, X1.out.cell⟩) (Or.inl ⟨by rfl, ?yd_0⟩) ?rd_0
  case yd_0 => (intro w _; go_simp <;> with_reducible rfl)
  simp only [List.setIfInBounds_toArray, List.set_cons_zero, List.set_cons_succ]
  refine Zreg.takeP 1 48 (x := ?xd_1) rfl rfl (by kernel_rfl) (by kernel_rfl) (by kernel_rfl) (by kernel_rfl) (fun _ _ _ h => h) (.inr ⟨(T1.out.cell _).trans HE1.out, X1.out.cell⟩) (Or.inl ⟨by rfl, ?yd_1⟩) ?rd_1
  case yd_1 => (intro w _; go_simp <;> with_reducible rfl)
  simp only [List.setIfInBounds_toArray, List.set_cons_zero, List.set_cons_succ]
  refine Zreg.takeP 2 49 (x := ?xd_2) rfl rfl (by kernel_rfl) (by kernel_rfl) (by kernel_rfl) (by kernel_rfl) (fun _ _ _ h => h) (.inr ⟨(T1.out.cell _).trans HE1.out, X1.out.cell⟩) (Or.inl ⟨by rfl, ?yd_2⟩) ?rd_2
  case yd_2 => (intro w _; go_simp <;> with_reducible rfl)
  simp only [List.setIfInBounds_toArray, List.set_cons_zero, List.set_cons_succ]
  refine Zreg.takeP 3 50 (x := ?xd_3) rfl rfl (by kernel_rfl) (by kernel_rfl) (by kernel_rfl) (by kernel_rfl) (fun _ _ _ h => h) (.inr ⟨(T1.out.cell _).trans HE1.out, X1.out.cell⟩) (Or.inl ⟨by rfl, ?yd_3⟩) ?rd_3
  case yd_3 => (intro w _; go_simp <;> with_reducible rfl)
  simp only [List.setIfInBounds_toArray, List.set_cons_zero, List.set_cons_succ]
  refine Zreg.takeP 4 51 (x := ?xd_4) rfl rfl (by kernel_rfl) (by kernel_rfl) (by kernel_rfl) (by kernel_rfl) (fun _ _ _ h => h) (.inr ⟨(T1.out.cell _).trans HE1.out, X1.out.cell⟩) (Or.inl ⟨by rfl, ?yd_4⟩) ?rd_4
  case yd_4 => (intro w _; go_simp <;> with_reducible rfl)
  simp only [List.setIfInBounds_toArray, List.set_cons_zero, List.set_cons_succ]
  refine Zreg.takeS 5 52 (x := ?xd_5) rfl rfl (by kernel_rfl) (by kernel_rfl) (by kernel_rfl) (by kernel_rfl) (by kernel_rfl) (by kernel_rfl) (fun _ _ _ h => h) (.inr ⟨(T1.out.cell _).trans HE1.out, X1.out.cell⟩) (Or.inl ⟨by rfl, ?yd_5⟩) ?rd_5
  case yd_5 => (intro w hSw; (try dsimp only at hSw); go_simp <;> with_reducible rfl)
  simp only [List.setIfInBounds_toArray, List.set_cons_zero, List.set_cons_succ]
  refine Zreg.takeP 6 53 (x := ?xd_6) rfl rfl (by kernel_rfl) (by kernel_rfl) (by kernel_rfl) (by kernel_rfl) (fun _ _ _ h => h) (.inr ⟨(T1.out.cell _).trans HE1.out, X1.out.cell⟩) (Or.inl ⟨by rfl, ?yd_6⟩) ?rd_6
  case yd_6 => (intro w _; go_simp <;> with_reducible rfl)
  simp only [List.setIfInBounds_toArray, List.set_cons_zero, List.set_cons_succ]
  refine Zreg.takeS 7 54 (x := ?xd_7) rfl rfl (by kernel_rfl) (by kernel_rfl) (by kernel_rfl) (by kernel_rfl) (by kernel_rfl) (by kernel_rfl) (fun _ _ _ h => h) (.inr ⟨(T1.out.cell _).trans HE1.out, X1.out.cell⟩) (Or.inl ⟨by rfl, ?yd_7⟩) ?rd_7
  case yd_7 => (intro w hSw; (try dsimp only at hSw); go_simp <;> with_reducible rfl)
  simp only [List.setIfInBounds_toArray, List.set_cons_zero, List.set_cons_succ]
  refine Zreg.takeP 8 55 (x := ?xd_8) rfl rfl (by kernel_rfl) (by kernel_rfl) (by kernel_rfl) (by kernel_rfl) (fun _ _ _ h => h) (.inr ⟨(T1.out.cell _).trans HE1.out, X1.out.cell⟩) (Or.inl ⟨by rfl, ?yd_8⟩) ?rd_8
  case yd_8 => (intro w _; go_simp <;> with_reducible rfl)
  simp only [List.setIfInBounds_toArray, List.set_cons_zero, List.set_cons_succ]
  refine Zreg.takeS 9 56 (x := ?xd_9) rfl rfl (by kernel_rfl) (by kernel_rfl) (by kernel_rfl) (by kernel_rfl) (by kernel_rfl) (by kernel_rfl) (fun _ _ _ h => h) (.inr ⟨(T1.out.cell _).trans HE1.out, X1.out.cell⟩) (Or.inl ⟨by rfl, ?yd_9⟩) ?rd_9
  case yd_9 => (intro w hSw; (try dsimp only at hSw); go_simp <;> with_reducible rfl)
  simp only [List.setIfInBounds_toArray, List.set_cons_zero, List.set_cons_succ]
  refine Zreg.one 10 (by kernel_rfl) rfl rfl fun K hK => ?_
  go_simp
  go_at_call 143
  refine (nextg_fin V5.drew base P F cs l p q fs cd2 ou2 wv dv HCS.out HME.out Q1.out F1.out L1.out HSF.out HFN.out HG2.out hbV5 HNX.out).mono ?_
  rintro e w6 ⟨rfl, hov, ho6⟩
  have HNO : Hid (∀ (g : Nat) (t : TypeId) (cs : Array Value), Blk V5.drew g t cs → t ≠ 126 → t ≠ 194 → ¬ (g = P ∨ bl q g)) := Lib.hid (fun g t cs hg h1 h2 e => by
    rcases e with e | e
    · exact Blk.ne hg Q1.out.drew h1 e
    · exact Row.ne F1.out.drew hg (Ne.symm h2) _ e rfl)
  have C1_ := Lib.hid (Blk.only C1.out.drew ho6 (HNO.out _ _ _ C1.out.drew (by decide) (by decide)))
  have T1_ := Lib.hid (Blk.only T1.out.drew ho6 (HNO.out _ _ _ T1.out.drew (by decide) (by decide)))
  have X1_ := Lib.hid (Blk.only X1.out.drew ho6 (HNO.out _ _ _ X1.out.drew (by decide) (by decide)))
  have K1_ := Lib.hid (K1.out.drew.only ho6 (fun g hg => by obtain ⟨ds, hd⟩ := Row.blk K1.out.drew hg; exact HNO.out _ _ _ hd (by decide) (by decide)))
  have R1_ := Lib.hid (R1.out.drew.only ho6 (fun g hg => by obtain ⟨ds, hd⟩ := Row.blk R1.out.drew hg; exact HNO.out _ _ _ hd (by decide) (by decide)))
  have E1_ := Lib.hid (E1.out.drew.only ho6 (fun ar hl ad ha e => by
    rcases e with e | e
    · exact Endw.ne E1.out Q1.out (by decide) (by decide) ar hl ad ha e
    · obtain ⟨ds, hd⟩ := F1.out.blk e
      exact Endw.ne E1.out hd (by decide) (by decide) ar hl ad ha rfl))
  have O1_ := Lib.hid (O1.out.drew.next ho6 (fun k _ h => (by
    rcases h with h | h
    · exact .inl (.inr (.inr h))
    · exact .inr (.inr (.inr h)))))
  have V1_ := Lib.hid hov
  clear hov ho6 C1 T1 X1 K1 R1 E1 O1 Q1 F1 L1 HNO hct hxx
  have C1 := Lib.hid C1_.out
  have T1 := Lib.hid T1_.out
  have X1 := Lib.hid X1_.out
  have K1 := Lib.hid K1_.out
  have R1 := Lib.hid R1_.out
  have E1 := Lib.hid E1_.out
  have O1 := Lib.hid O1_.out
  have V1 := Lib.hid V1_.out
  clear C1_ T1_ X1_ K1_ R1_ E1_ O1_ V1_
  have htf := T1.out.frozen
  have ht3 := (T1.out.cell (o + 3)).trans HE3.out
  have ht4 := (T1.out.cell (o + 4)).trans HE4.out
  have ht5 := (T1.out.cell (o + 5)).trans HE5.out
  have ht6 := (T1.out.cell (o + 6)).trans HE6.out
  have ht7 := (T1.out.cell (o + 7)).trans HE7.out
  have ht8 := (T1.out.cell (o + 8)).trans HE8.out
  refine hK.out _ _ (.inr ⟨(T1.out.cell _).trans HE1.out, X1.out.cell⟩) fun _ => ?_
  clear hK
  simp only [List.setIfInBounds_toArray, List.set_cons_zero, List.set_cons_succ]
  refine Zreg.takeP 11 46 (x := ?xd_11) rfl rfl (by kernel_rfl) (by kernel_rfl) (by kernel_rfl) (by kernel_rfl) (fun _ _ _ h => h) (.inr ⟨(T1.out.cell _).trans HE1.out, X1.out.cell⟩) (Or.inl ⟨by rfl, ?yd_11⟩) ?rd_11
  case yd_11 => (intro w _; go_simp <;> with_reducible rfl)
  simp only [List.setIfInBounds_toArray, List.set_cons_zero, List.set_cons_succ]
  refine Zreg.takeP 12 58 (x := ?xd_12) rfl rfl (by kernel_rfl) (by kernel_rfl) (by kernel_rfl) (by kernel_rfl) (fun _ _ _ h => h) (.inr ⟨(T1.out.cell _).trans HE1.out, X1.out.cell⟩) (Or.inl ⟨by rfl, ?yd_12⟩) ?rd_12
  case yd_12 => (intro w _; go_simp <;> with_reducible rfl)
  simp only [List.setIfInBounds_toArray, List.set_cons_zero, List.set_cons_succ]
  refine Zreg.takeP 13 59 (x := ?xd_13) rfl rfl (by kernel_rfl) (by kernel_rfl) (by kernel_rfl) (by kernel_rfl) (fun _ _ _ h => h) (.inr ⟨(T1.out.cell _).trans HE1.out, X1.out.cell⟩) (Or.inl ⟨by rfl, ?yd_13⟩) ?rd_13
  case yd_13 => (intro w _; go_simp <;> with_reducible rfl)
  simp only [List.setIfInBounds_toArray, List.set_cons_zero, List.set_cons_succ]
  refine Zreg.takeP 14 60 (x := ?xd_14) rfl rfl (by kernel_rfl) (by kernel_rfl) (by kernel_rfl) (by kernel_rfl) (fun _ _ _ h => h) (.inr ⟨(T1.out.cell _).trans HE1.out, X1.out.cell⟩) (Or.inl ⟨by rfl, ?yd_14⟩) ?rd_14
  case yd_14 => (intro w _; go_simp <;> with_reducible rfl)
  simp only [List.setIfInBounds_toArray, List.set_cons_zero, List.set_cons_succ]
  refine Zreg.takeP 15 61 (x := ?xd_15) rfl rfl (by kernel_rfl) (by kernel_rfl) (by kernel_rfl) (by kernel_rfl) (fun _ _ _ h => h) (.inr ⟨(T1.out.cell _).trans HE1.out, X1.out.cell⟩) (Or.inl ⟨by rfl, ?yd_15⟩) ?rd_15
  case yd_15 => (intro w _; go_simp <;> with_reducible rfl)
  simp only [List.setIfInBounds_toArray, List.set_cons_zero, List.set_cons_succ]
  refine Zreg.one 16 (by kernel_rfl) rfl rfl fun K hK => ?_
  go_simp
  refine hK.out _ _ (.inl (by kernel_rfl)) fun _ => ?_
  clear hK
  simp only [List.setIfInBounds_toArray, List.set_cons_zero, List.set_cons_succ]
  refine Zreg.takeP 17 62 (x := ?xd_17) rfl rfl (by kernel_rfl) (by kernel_rfl) (by kernel_rfl) (by kernel_rfl) (fun _ _ _ h => h) (.inl (by kernel_rfl)) (Or.inl ⟨by rfl, ?yd_17⟩) ?rd_17
  case yd_17 => (intro w _; go_simp <;> with_reducible rfl)
  simp only [List.setIfInBounds_toArray, List.set_cons_zero, List.set_cons_succ]
  refine Zreg.takeP 18 63 (x := ?xd_18) rfl rfl (by kernel_rfl) (by kernel_rfl) (by kernel_rfl) (by kernel_rfl) (fun _ _ _ h => h) (.inl (by kernel_rfl)) (Or.inl ⟨by rfl, ?yd_18⟩) ?rd_18
  case yd_18 => (intro w _; go_simp <;> with_reducible rfl)
  simp only [List.setIfInBounds_toArray, List.set_cons_zero, List.set_cons_succ]
  refine Zreg.one 19 (by kernel_rfl) rfl rfl fun K hK => ?_
  go_simp
  refine hK.out _ _ (.inl (by kernel_rfl)) fun _ => ?_
  clear hK
  simp only [List.setIfInBounds_toArray, List.set_cons_zero, List.set_cons_succ]
  refine Zreg.done (by kernel_rfl) ?_ _
  have HKT := Lib.hid (Row.ne K1.out T1.out (by decide))
  have HRT := Lib.hid (Row.ne R1.out T1.out (by decide))
  have HET := Lib.hid (Endw.ne E1.out T1.out (by decide) (by decide))
  clear htf ht3 ht4 ht5 ht6 ht7 ht8 hm
  have C1_ := Lib.hid (Blk.far (Blk.far (Blk.far (Blk.far (Blk.far (Blk.far C1.out (p := ⟨gT, (o + 3), none⟩) hCT (.int .i64 0)) (p := ⟨gT, (o + 4), none⟩) hCT (.int .i64 0)) (p := ⟨gT, (o + 5), none⟩) hCT (.int .i64 0)) (p := ⟨gT, (o + 6), none⟩) hCT (.int .u64 0)) (p := ⟨gT, (o + 7), none⟩) hCT (.int .u64 0)) (p := ⟨gT, (o + 8), none⟩) hCT (.bool false))
  have T1_ := Lib.hid (Blk.set_ (Blk.set_ (Blk.set_ (Blk.set_ (Blk.set_ (Blk.set_ T1.out (o + 3) (.int .i64 0)) (o + 4) (.int .i64 0)) (o + 5) (.int .i64 0)) (o + 6) (.int .u64 0)) (o + 7) (.int .u64 0)) (o + 8) (.bool false))
  have X1_ := Lib.hid (Blk.far (Blk.far (Blk.far (Blk.far (Blk.far (Blk.far X1.out (p := ⟨gT, (o + 3), none⟩) hXT (.int .i64 0)) (p := ⟨gT, (o + 4), none⟩) hXT (.int .i64 0)) (p := ⟨gT, (o + 5), none⟩) hXT (.int .i64 0)) (p := ⟨gT, (o + 6), none⟩) hXT (.int .u64 0)) (p := ⟨gT, (o + 7), none⟩) hXT (.int .u64 0)) (p := ⟨gT, (o + 8), none⟩) hXT (.bool false))
  have K1_ := Lib.hid (Row.kept (w' := ((((((w6.setCell ⟨gT, (o + 3), none⟩ (.int .i64 0)).setCell ⟨gT, (o + 4), none⟩ (.int .i64 0)).setCell ⟨gT, (o + 5), none⟩ (.int .i64 0)).setCell ⟨gT, (o + 6), none⟩ (.int .u64 0)).setCell ⟨gT, (o + 7), none⟩ (.int .u64 0)).setCell ⟨gT, (o + 8), none⟩ (.bool false))) (Row.kept (w' := (((((w6.setCell ⟨gT, (o + 3), none⟩ (.int .i64 0)).setCell ⟨gT, (o + 4), none⟩ (.int .i64 0)).setCell ⟨gT, (o + 5), none⟩ (.int .i64 0)).setCell ⟨gT, (o + 6), none⟩ (.int .u64 0)).setCell ⟨gT, (o + 7), none⟩ (.int .u64 0))) (Row.kept (w' := ((((w6.setCell ⟨gT, (o + 3), none⟩ (.int .i64 0)).setCell ⟨gT, (o + 4), none⟩ (.int .i64 0)).setCell ⟨gT, (o + 5), none⟩ (.int .i64 0)).setCell ⟨gT, (o + 6), none⟩ (.int .u64 0))) (Row.kept (w' := (((w6.setCell ⟨gT, (o + 3), none⟩ (.int .i64 0)).setCell ⟨gT, (o + 4), none⟩ (.int .i64 0)).setCell ⟨gT, (o + 5), none⟩ (.int .i64 0))) (Row.kept (w' := ((w6.setCell ⟨gT, (o + 3), none⟩ (.int .i64 0)).setCell ⟨gT, (o + 4), none⟩ (.int .i64 0))) (Row.kept (w' := (w6.setCell ⟨gT, (o + 3), none⟩ (.int .i64 0))) K1.out (fun g_ hg_ => Below.heap_setCell _ _ _ _ (HKT.out g_ hg_))) (fun g_ hg_ => Below.heap_setCell _ _ _ _ (HKT.out g_ hg_))) (fun g_ hg_ => Below.heap_setCell _ _ _ _ (HKT.out g_ hg_))) (fun g_ hg_ => Below.heap_setCell _ _ _ _ (HKT.out g_ hg_))) (fun g_ hg_ => Below.heap_setCell _ _ _ _ (HKT.out g_ hg_))) (fun g_ hg_ => Below.heap_setCell _ _ _ _ (HKT.out g_ hg_)))
  have R1_ := Lib.hid (Row.kept (w' := ((((((w6.setCell ⟨gT, (o + 3), none⟩ (.int .i64 0)).setCell ⟨gT, (o + 4), none⟩ (.int .i64 0)).setCell ⟨gT, (o + 5), none⟩ (.int .i64 0)).setCell ⟨gT, (o + 6), none⟩ (.int .u64 0)).setCell ⟨gT, (o + 7), none⟩ (.int .u64 0)).setCell ⟨gT, (o + 8), none⟩ (.bool false))) (Row.kept (w' := (((((w6.setCell ⟨gT, (o + 3), none⟩ (.int .i64 0)).setCell ⟨gT, (o + 4), none⟩ (.int .i64 0)).setCell ⟨gT, (o + 5), none⟩ (.int .i64 0)).setCell ⟨gT, (o + 6), none⟩ (.int .u64 0)).setCell ⟨gT, (o + 7), none⟩ (.int .u64 0))) (Row.kept (w' := ((((w6.setCell ⟨gT, (o + 3), none⟩ (.int .i64 0)).setCell ⟨gT, (o + 4), none⟩ (.int .i64 0)).setCell ⟨gT, (o + 5), none⟩ (.int .i64 0)).setCell ⟨gT, (o + 6), none⟩ (.int .u64 0))) (Row.kept (w' := (((w6.setCell ⟨gT, (o + 3), none⟩ (.int .i64 0)).setCell ⟨gT, (o + 4), none⟩ (.int .i64 0)).setCell ⟨gT, (o + 5), none⟩ (.int .i64 0))) (Row.kept (w' := ((w6.setCell ⟨gT, (o + 3), none⟩ (.int .i64 0)).setCell ⟨gT, (o + 4), none⟩ (.int .i64 0))) (Row.kept (w' := (w6.setCell ⟨gT, (o + 3), none⟩ (.int .i64 0))) R1.out (fun g_ hg_ => Below.heap_setCell _ _ _ _ (HRT.out g_ hg_))) (fun g_ hg_ => Below.heap_setCell _ _ _ _ (HRT.out g_ hg_))) (fun g_ hg_ => Below.heap_setCell _ _ _ _ (HRT.out g_ hg_))) (fun g_ hg_ => Below.heap_setCell _ _ _ _ (HRT.out g_ hg_))) (fun g_ hg_ => Below.heap_setCell _ _ _ _ (HRT.out g_ hg_))) (fun g_ hg_ => Below.heap_setCell _ _ _ _ (HRT.out g_ hg_)))
  have E1_ := Lib.hid (Endw.kept (w' := ((((((w6.setCell ⟨gT, (o + 3), none⟩ (.int .i64 0)).setCell ⟨gT, (o + 4), none⟩ (.int .i64 0)).setCell ⟨gT, (o + 5), none⟩ (.int .i64 0)).setCell ⟨gT, (o + 6), none⟩ (.int .u64 0)).setCell ⟨gT, (o + 7), none⟩ (.int .u64 0)).setCell ⟨gT, (o + 8), none⟩ (.bool false))) (Endw.kept (w' := (((((w6.setCell ⟨gT, (o + 3), none⟩ (.int .i64 0)).setCell ⟨gT, (o + 4), none⟩ (.int .i64 0)).setCell ⟨gT, (o + 5), none⟩ (.int .i64 0)).setCell ⟨gT, (o + 6), none⟩ (.int .u64 0)).setCell ⟨gT, (o + 7), none⟩ (.int .u64 0))) (Endw.kept (w' := ((((w6.setCell ⟨gT, (o + 3), none⟩ (.int .i64 0)).setCell ⟨gT, (o + 4), none⟩ (.int .i64 0)).setCell ⟨gT, (o + 5), none⟩ (.int .i64 0)).setCell ⟨gT, (o + 6), none⟩ (.int .u64 0))) (Endw.kept (w' := (((w6.setCell ⟨gT, (o + 3), none⟩ (.int .i64 0)).setCell ⟨gT, (o + 4), none⟩ (.int .i64 0)).setCell ⟨gT, (o + 5), none⟩ (.int .i64 0))) (Endw.kept (w' := ((w6.setCell ⟨gT, (o + 3), none⟩ (.int .i64 0)).setCell ⟨gT, (o + 4), none⟩ (.int .i64 0))) (Endw.kept (w' := (w6.setCell ⟨gT, (o + 3), none⟩ (.int .i64 0))) E1.out (fun ar hl_ ad_ ha_ => Below.heap_setCell _ _ _ _ (HET.out ar hl_ ad_ ha_))) (fun ar hl_ ad_ ha_ => Below.heap_setCell _ _ _ _ (HET.out ar hl_ ad_ ha_))) (fun ar hl_ ad_ ha_ => Below.heap_setCell _ _ _ _ (HET.out ar hl_ ad_ ha_))) (fun ar hl_ ad_ ha_ => Below.heap_setCell _ _ _ _ (HET.out ar hl_ ad_ ha_))) (fun ar hl_ ad_ ha_ => Below.heap_setCell _ _ _ _ (HET.out ar hl_ ad_ ha_))) (fun ar hl_ ad_ ha_ => Below.heap_setCell _ _ _ _ (HET.out ar hl_ ad_ ha_)))
  have V1_ := Lib.hid (show Over (((((((w6.setCell ⟨gT, (o + 3), none⟩ (.int .i64 0)).setCell ⟨gT, (o + 4), none⟩ (.int .i64 0)).setCell ⟨gT, (o + 5), none⟩ (.int .i64 0)).setCell ⟨gT, (o + 6), none⟩ (.int .u64 0)).setCell ⟨gT, (o + 7), none⟩ (.int .u64 0)).setCell ⟨gT, (o + 8), none⟩ (.bool false))) P cd2 ou2 from (Blk.far (Blk.far (Blk.far (Blk.far (Blk.far (Blk.far V1.out (p := ⟨gT, (o + 3), none⟩) hPT (.int .i64 0)) (p := ⟨gT, (o + 4), none⟩) hPT (.int .i64 0)) (p := ⟨gT, (o + 5), none⟩) hPT (.int .i64 0)) (p := ⟨gT, (o + 6), none⟩) hPT (.int .u64 0)) (p := ⟨gT, (o + 7), none⟩) hPT (.int .u64 0)) (p := ⟨gT, (o + 8), none⟩) hPT (.bool false)))
  have O1_ := Lib.hid (Only.set_ (Only.set_ (Only.set_ (Only.set_ (Only.set_ (Only.set_ O1.out ⟨gT, (o + 3), none⟩ (.inl (.inl (.inl rfl))) (.int .i64 0)) ⟨gT, (o + 4), none⟩ (.inl (.inl (.inl rfl))) (.int .i64 0)) ⟨gT, (o + 5), none⟩ (.inl (.inl (.inl rfl))) (.int .i64 0)) ⟨gT, (o + 6), none⟩ (.inl (.inl (.inl rfl))) (.int .u64 0)) ⟨gT, (o + 7), none⟩ (.inl (.inl (.inl rfl))) (.int .u64 0)) ⟨gT, (o + 8), none⟩ (.inl (.inl (.inl rfl))) (.bool false))
  clear C1 T1 X1 K1 R1 E1 V1 O1
  have C1 := Lib.hid C1_.out
  have T1 := Lib.hid T1_.out
  have X1 := Lib.hid X1_.out
  have K1 := Lib.hid K1_.out
  have R1 := Lib.hid R1_.out
  have E1 := Lib.hid E1_.out
  have V1 := Lib.hid V1_.out
  have O1 := Lib.hid O1_.out
  clear C1_ T1_ X1_ K1_ R1_ E1_ V1_ O1_
  generalize ((((((w6.setCell ⟨gT, (o + 3), none⟩ (.int .i64 0)).setCell ⟨gT, (o + 4), none⟩ (.int .i64 0)).setCell ⟨gT, (o + 5), none⟩ (.int .i64 0)).setCell ⟨gT, (o + 6), none⟩ (.int .u64 0)).setCell ⟨gT, (o + 7), none⟩ (.int .u64 0)).setCell ⟨gT, (o + 8), none⟩ (.bool false)) = V6 at C1 T1 X1 K1 R1 E1 V1 O1 ⊢
  have hlo := (Array.getElem?_eq_some_iff.1 HE8.out).1
  have hto8 : V6.cell? ⟨gT, o + 8, none⟩ = some (.bool false) := (T1.out.cell (o + 8)).trans (Array.getElem?_setIfInBounds_self_of_lt (by simp only [Array.size_setIfInBounds]; omega))
  have hto2 : V6.cell? ⟨gT, o + 2, none⟩ = some (.int .i64 k) := (T1.out.cell (o + 2)).trans ((Array.getElem?_setIfInBounds_ne (by omega)).trans ((Array.getElem?_setIfInBounds_ne (by omega)).trans ((Array.getElem?_setIfInBounds_ne (by omega)).trans ((Array.getElem?_setIfInBounds_ne (by omega)).trans ((Array.getElem?_setIfInBounds_ne (by omega)).trans ((Array.getElem?_setIfInBounds_ne (by omega)).trans HE2.out))))))
  have hto1 : V6.cell? ⟨gT, o + 1, none⟩ = some (.iface 123 (.pointer (some ⟨P, 0, none⟩))) := (T1.out.cell (o + 1)).trans ((Array.getElem?_setIfInBounds_ne (by omega)).trans ((Array.getElem?_setIfInBounds_ne (by omega)).trans ((Array.getElem?_setIfInBounds_ne (by omega)).trans ((Array.getElem?_setIfInBounds_ne (by omega)).trans ((Array.getElem?_setIfInBounds_ne (by omega)).trans ((Array.getElem?_setIfInBounds_ne (by omega)).trans HE1.out))))))
  have hsz := T1.out.frozen
  have hc := C1.out.cell
  obtain ⟨gK, hA, hgKlo, hgKhi, hgKc, hgKf⟩ := K1.out.at_ (Nat.lt_of_le_of_lt (Nat.zero_le _) hk)
  have hKn := K1.out.n_
  have hRn := R1.out.n_
  have k0 : (0 : Int) ≤ k := by omega
  have k1 : (k : Int) < sK.n := by omega
  have k2 : (sK.n : Int) ≤ 9223372036854775807 := by omega
  have s0 : (1 : Int) ≤ s1.n := by omega
  have s1' : (s1.n : Int) ≤ 9223372036854775807 := by omega
  have hx4 := (hgKc (k * 7 + 4) (by omega)).trans HX4.out
  have hCK : ¬ gC = gK := fun e => Row.ne K1.out C1.out (by decide) gK ⟨_, hA, rfl⟩ e.symm
  have hTK : ¬ gT = gK := fun e => Row.ne K1.out T1.out (by decide) gK ⟨_, hA, rfl⟩ e.symm
  have hKT' : ¬ gK = gT := fun e => hTK e.symm
  have hKC' : ¬ gK = gC := fun e => hCK e.symm
  have hPK : ¬ P = gK := fun e => Row.ne K1.out V1.out (by decide) gK ⟨_, hA, rfl⟩ e.symm
  have HRK1 := Lib.hid (Row.ne_row R1.out K1.out (by decide))
  have HRK1 : Hid (∀ g, bl s1 g → g ≠ gK) := Lib.hid (fun g hg => HRK1.out g hg gK ⟨_, hA, rfl⟩)
  have HEK : Hid (∀ ar, la ar → ∀ ad, (r3.sl ar).A = some ad → ad.block ≠ gK) := Lib.hid (by obtain ⟨ds, hd⟩ := K1.out.blk ⟨_, hA, rfl⟩; exact Endw.ne E1.out hd (by decide) (by decide))
  have HKN := Lib.hid hKn
  have HRN := Lib.hid hRn
  have HGC := Lib.hid hgKc
  clear hKn hRn hgKc
  go_wp2_with fail
  go_quiet (fail)
  have C1 := Lib.hid (C1.out.drewN nq)
  have T1 := Lib.hid (T1.out.drewN nq)
  have K1 := Lib.hid (K1.out.drewN nq)
  have R1 := Lib.hid (R1.out.drewN nq)
  have E1 := Lib.hid (E1.out.drewN nq)
  have O1 := Lib.hid (O1.out.drewN nq)
  have V1 : Hid (Over (V6.drewN nq) P cd2 ou2) := Lib.hid V1.out
  have hto1 : (V6.drewN nq).cell? ⟨gT, o + 1, none⟩ = _ := hto1
  have hx4 : (V6.drewN nq).cell? ⟨gK, k * 7 + 4, none⟩ = some x4 := hx4
  have hgKf : ∀ j, (V6.drewN nq).frozen? ⟨gK, j, none⟩ = false := hgKf
  clear hto8 hto2 hsz hc
  generalize V6.drewN nq = V7 at C1 T1 K1 R1 E1 O1 V1 hto1 hx4 hgKf ⊢
  have hc := C1.out.cell
  go_wp2_with fail
  have C1_ := Lib.hid (Blk.far C1.out (p := ⟨gK, (k * 7 + 4), none⟩) hCK (.int .i64 (s1.n - 1)))
  have T1_ := Lib.hid (Blk.far T1.out (p := ⟨gK, (k * 7 + 4), none⟩) hTK (.int .i64 (s1.n - 1)))
  have K1_ := Lib.hid (Row.set_ K1.out hA (k * 7 + 4) (.int .i64 (s1.n - 1)))
  have R1_ := Lib.hid (Row.kept (w' := (V7.setCell ⟨gK, (k * 7 + 4), none⟩ (.int .i64 (s1.n - 1)))) R1.out (fun g_ hg_ => Below.heap_setCell _ _ _ _ (HRK1.out g_ hg_)))
  have E1_ := Lib.hid (Endw.kept (w' := (V7.setCell ⟨gK, (k * 7 + 4), none⟩ (.int .i64 (s1.n - 1)))) E1.out (fun ar hl_ ad_ ha_ => Below.heap_setCell _ _ _ _ (HEK.out ar hl_ ad_ ha_)))
  have V1_ := Lib.hid (show Over ((V7.setCell ⟨gK, (k * 7 + 4), none⟩ (.int .i64 (s1.n - 1)))) P cd2 ou2 from (Blk.far V1.out (p := ⟨gK, (k * 7 + 4), none⟩) hPK (.int .i64 (s1.n - 1))))
  have O1_ := Lib.hid (Only.set_ O1.out ⟨gK, (k * 7 + 4), none⟩ (.inl (.inr (.inr (.inl ⟨_, hA, rfl⟩)))) (.int .i64 (s1.n - 1)))
  clear C1 T1 K1 R1 E1 V1 O1
  have C1 := Lib.hid C1_.out
  have T1 := Lib.hid T1_.out
  have K1 := Lib.hid K1_.out
  have R1 := Lib.hid R1_.out
  have E1 := Lib.hid E1_.out
  have V1 := Lib.hid V1_.out
  have O1 := Lib.hid O1_.out
  clear C1_ T1_ K1_ R1_ E1_ V1_ O1_
  generalize (V7.setCell ⟨gK, (k * 7 + 4), none⟩ (.int .i64 (s1.n - 1))) = V8 at C1 T1 K1 R1 E1 V1 O1 ⊢
  obtain ⟨gK2, hA2, _, _, hgKc, hgKf2⟩ := K1.out.at_ (Nat.lt_of_le_of_lt (Nat.zero_le _) hk)
  rw [hA] at hA2
  injection hA2 with hA2
  injection hA2 with hA2
  subst hA2
  have hx5 : V8.cell? ⟨gK, k * 7 + 5, none⟩ = some x5 := (hgKc (k * 7 + 5) (by omega)).trans ((List.getElem?_set_ne (by omega)).trans HX5.out)
  have hx6 : V8.cell? ⟨gK, k * 7 + 6, none⟩ = some x6 := (hgKc (k * 7 + 6) (by omega)).trans ((List.getElem?_set_ne (by omega)).trans HX6.out)
  have hto1 : V8.cell? ⟨gT, o + 1, none⟩ = some (.iface 123 (.pointer (some ⟨P, 0, none⟩))) := (T1.out.cell (o + 1)).trans ((Array.getElem?_setIfInBounds_ne (by omega)).trans ((Array.getElem?_setIfInBounds_ne (by omega)).trans ((Array.getElem?_setIfInBounds_ne (by omega)).trans ((Array.getElem?_setIfInBounds_ne (by omega)).trans ((Array.getElem?_setIfInBounds_ne (by omega)).trans ((Array.getElem?_setIfInBounds_ne (by omega)).trans HE1.out))))))
  have hsz := T1.out.frozen
  have hm := method_result ⟨P, 0, none⟩
  clear hgKc hc hx4 hgKf
  go_wp2_with (go_at_call 144; (with_reducible refine (result_c _ P cd2 ou2 V1.out).mono ?_); rintro e w9 ⟨rfl, n9, rfl⟩)
  go_end0
  have C1 := Lib.hid (C1.out.drewN n9)
  have T1 := Lib.hid (T1.out.drewN n9)
  have K1 := Lib.hid (K1.out.drewN n9)
  have R1 := Lib.hid (R1.out.drewN n9)
  have E1 := Lib.hid (E1.out.drewN n9)
  have O1 := Lib.hid (O1.out.drewN n9)
  clear hx5 hx6 hto1 hsz hgKf2
  generalize V8.drewN n9 = V9 at C1 T1 K1 R1 E1 O1 ⊢
  have C1_ := Lib.hid (Blk.far (Blk.far (Blk.far C1.out (p := ⟨gK, (k * 7 + 5), none⟩) hCK (.int .i64 cd2)) (p := ⟨gK, (k * 7 + 6), none⟩) hCK (.int .u32 ou2)) (p := ⟨gT, (o + 1), none⟩) hCT (.nilIface))
  have T1_ := Lib.hid (Blk.set_ (Blk.far (Blk.far T1.out (p := ⟨gK, (k * 7 + 5), none⟩) hTK (.int .i64 cd2)) (p := ⟨gK, (k * 7 + 6), none⟩) hTK (.int .u32 ou2)) (o + 1) (.nilIface))
  have K1_ := Lib.hid (Row.kept (w' := (((V9.setCell ⟨gK, (k * 7 + 5), none⟩ (.int .i64 cd2)).setCell ⟨gK, (k * 7 + 6), none⟩ (.int .u32 ou2)).setCell ⟨gT, (o + 1), none⟩ (.nilIface))) (Row.set_ (Row.set_ K1.out hA (k * 7 + 5) (.int .i64 cd2)) hA (k * 7 + 6) (.int .u32 ou2)) (fun g_ hg_ => Below.heap_setCell _ _ _ _ (HKT.out g_ hg_)))
  have R1_ := Lib.hid (Row.kept (w' := (((V9.setCell ⟨gK, (k * 7 + 5), none⟩ (.int .i64 cd2)).setCell ⟨gK, (k * 7 + 6), none⟩ (.int .u32 ou2)).setCell ⟨gT, (o + 1), none⟩ (.nilIface))) (Row.kept (w' := ((V9.setCell ⟨gK, (k * 7 + 5), none⟩ (.int .i64 cd2)).setCell ⟨gK, (k * 7 + 6), none⟩ (.int .u32 ou2))) (Row.kept (w' := (V9.setCell ⟨gK, (k * 7 + 5), none⟩ (.int .i64 cd2))) R1.out (fun g_ hg_ => Below.heap_setCell _ _ _ _ (HRK1.out g_ hg_))) (fun g_ hg_ => Below.heap_setCell _ _ _ _ (HRK1.out g_ hg_))) (fun g_ hg_ => Below.heap_setCell _ _ _ _ (HRT.out g_ hg_)))
  have E1_ := Lib.hid (Endw.kept (w' := (((V9.setCell ⟨gK, (k * 7 + 5), none⟩ (.int .i64 cd2)).setCell ⟨gK, (k * 7 + 6), none⟩ (.int .u32 ou2)).setCell ⟨gT, (o + 1), none⟩ (.nilIface))) (Endw.kept (w' := ((V9.setCell ⟨gK, (k * 7 + 5), none⟩ (.int .i64 cd2)).setCell ⟨gK, (k * 7 + 6), none⟩ (.int .u32 ou2))) (Endw.kept (w' := (V9.setCell ⟨gK, (k * 7 + 5), none⟩ (.int .i64 cd2))) E1.out (fun ar hl_ ad_ ha_ => Below.heap_setCell _ _ _ _ (HEK.out ar hl_ ad_ ha_))) (fun ar hl_ ad_ ha_ => Below.heap_setCell _ _ _ _ (HEK.out ar hl_ ad_ ha_))) (fun ar hl_ ad_ ha_ => Below.heap_setCell _ _ _ _ (HET.out ar hl_ ad_ ha_)))
  have O1_ := Lib.hid (Only.set_ (Only.set_ (Only.set_ O1.out ⟨gK, (k * 7 + 5), none⟩ (.inl (.inr (.inr (.inl ⟨_, hA, rfl⟩)))) (.int .i64 cd2)) ⟨gK, (k * 7 + 6), none⟩ (.inl (.inr (.inr (.inl ⟨_, hA, rfl⟩)))) (.int .u32 ou2)) ⟨gT, (o + 1), none⟩ (.inl (.inl (.inl rfl))) (.nilIface))
  clear C1 T1 K1 R1 E1 O1
  have C1 := Lib.hid C1_.out
  have T1 := Lib.hid T1_.out
  have K1 := Lib.hid K1_.out
  have R1 := Lib.hid R1_.out
  have E1 := Lib.hid E1_.out
  have O1 := Lib.hid O1_.out
  clear C1_ T1_ K1_ R1_ E1_ O1_
  have hw := EW.out
  have hd := ED.out
  subst hw
  subst hd
  exact ⟨r3, s1, rfl, C1.out, T1.out, K1.out, R1.out, E1.out, O1.out⟩
end Go.Proofs.Ytffppdcpiieapaa.Drivec
