/- A thread's access is done, by contract. · A region in which a call and an allocation race: either may come up first. · One more element of a slice that the call made, and where it lies then: where it lay, or in a block that wasn't there. · A region that draws its order, whose last operations write what others of it have read, and wait for those by others between. · The next access of a machine that goes through a call anew: by contract, whatever the call is. -/
import Derived.Test.YtffppdcpiieapaaQ3
import Derived.Test.YtffppdcpiieapaaQ4
namespace Go.Proofs.Ytffppdcpiieapaa.Drivec
open Go.RowKit Go.Proofs.Ytffppdcpiieapaa.Memc Go.Proofs.Ytffppdcpiieapaa.Procc Go.Proofs.Ytffppdcpiieapaa.Storec
set_option linter.unusedVariables false
set_option maxRecDepth 100000

/-- the words that a run holds: the rows are its own -/
def Endw (w : World) (base : Nat) (r : R) (m : Memc.M) : Prop := (r.e = m.e ∧ r.f = m.f ∧ r.h = m.h ∧ r.t = m.t) ∧ m.ok ∧ ∀ a, la a → Own w base (r.sl a) (m.area a)
section
variable {w w' : World} {base : Nat} {r : R} {m : Memc.M}
theorem Endw.rm (h : Endw w base r m) : Rm w w.heap.size r m :=
  ⟨h.1.1, h.1.2.1, h.1.2.2.1, h.1.2.2.2, h.2.1, (h.2.2 3 (.inl rfl)).rd, (h.2.2 4 (.inr (.inl rfl))).rd, (h.2.2 7 (.inr (.inr (.inl rfl)))).rd, (h.2.2 8 (.inr (.inr (.inr (.inl rfl))))).rd, (h.2.2 9 (.inr (.inr (.inr (.inr rfl))))).rd⟩
theorem Endw.kept (h : Endw w base r m) (hk : ∀ a, la a → ∀ ad, (r.sl a).A = some ad → w'.heap[ad.block]? = w.heap[ad.block]?) : Endw w' base r m :=
  ⟨h.1, h.2.1, fun a hl => (h.2.2 a hl).kept (hk a hl)⟩
theorem Endw.alloc (h : Endw w base r m) (o : Obj) : Endw (w.alloc o) base r m := ⟨h.1, h.2.1, fun a hl => (h.2.2 a hl).alloc o⟩
theorem Endw.drew (h : Endw w base r m) : Endw w.drew base r m := h
theorem Endw.only {P : Nat → Prop} (h : Endw w base r m) (ho : Only P w w') (hp : ∀ a, la a → ∀ ad, (r.sl a).A = some ad → ¬ P ad.block) : Endw w' base r m :=
  h.kept fun a hl ad ha => ho.block _ ((h.2.2 a hl).lt ha).2 (hp a hl ad ha)
theorem Endw.ne (h : Endw w base r m) {g : Nat} {t : TypeId} {cs : Array Value} (hg : Blk w g t cs) (h1 : t ≠ 33) (h2 : t ≠ 30) : ∀ a, la a → ∀ ad, (r.sl a).A = some ad → ad.block ≠ g :=
  fun a hl ad ha e => ((h.2.2 a hl).kin ha).ne_ hg h1 h2 e.symm
end
theorem step_cell : (Try.prog.info? 59).map (fun i => (i.zero, i.size, i.bytes)) = some (some (.agg #[.int .i64 0, .int .i64 0, .int .i64 0, .int .i64 0, .int .u64 0, .int .u64 0, .int .u64 0, .bool false]), 8, 64) := by kernel_rfl

theorem Endw.drewN {w : World} {base : Nat} {r : R} {m : Memc.M} (h : Endw w base r m) (n : Nat) : Endw (w.drewN n) base r m := h
/-- a thread's cells behind a step that ends its call -/
def ended (ct : Array Value) (o : Nat) : Array Value :=
  ((((((ct.setIfInBounds (o + 3) (.int .i64 0)).setIfInBounds (o + 4) (.int .i64 0)).setIfInBounds (o + 5) (.int .i64 0)).setIfInBounds (o + 6) (.int .u64 0)).setIfInBounds (o + 7) (.int .u64 0)).setIfInBounds (o + 8) (.bool false)).setIfInBounds (o + 1) .nilIface
/-- what doing a thread's access, the only one of its call, comes to -/
def Stepped (w : World) (gC gT gL o i P base nS nK k : Nat) (ct : Array Value) (a : Acc) (m : Memc.M) (th sS sK : Sl) (ys xs : List Value) (e : Ending) (w' : World) : Prop :=
  ∃ (r3 : R) (s1 : Sl), e = .returned (.tuple #[]) ∧ Blk w' gC 102 #[.func (.func 27) #[] #[.pointer (some ⟨gL, 0, none⟩)], .slice th.A th.n th.c, .slice s1.A s1.n s1.c, .slice sK.A sK.n sK.c, .int .u64 r3.e, .int .u64 r3.f, .slice r3.L.A r3.L.n r3.L.c, .slice r3.P.A r3.P.n r3.P.c, .int .u64 r3.h, .int .u64 r3.t, .slice r3.K.A r3.K.n r3.K.c, .slice r3.X.A r3.X.n r3.X.c, .slice r3.S.A r3.S.n r3.S.c] ∧ Blk w' gT 104 (ended ct o) ∧
    Row w' base 55 7 sK nK (((xs.set (k * 7 + 4) (.int .i64 (s1.n - 1))).set (k * 7 + 5) (.int .i64 0)).set (k * 7 + 6) (.int .u32 (num (acc m a).2.2))) ∧
    Row w' base 59 8 s1 (nS + 1) (ys ++ [.int .i64 i, .int .i64 a.d, .int .i64 a.ar, .int .i64 a.at_, .int .u64 a.old, .int .u64 a.new, .int .u64 (acc m a).2.1, .bool (acc m a).2.2]) ∧ Endw w' base r3 (acc m a).1 ∧
    Only (fun g => (g = gT ∨ g = gC ∨ g = P) ∨ bl sS g ∨ bl sK g) w w'

end Go.Proofs.Ytffppdcpiieapaa.Drivec

namespace Go.Proofs.Ytffppdcpiieapaa.Zreg
open Go Go.RowKit
set_option linter.unusedVariables false
set_option maxRecDepth 100000
section
variable {P : Program} {ops : Array Oper} {Q : Exit → Act → World → Prop} {md : Region.Mode} {S : World → Prop} {zs : List Nat}
/-- either of two may come up now -/
theorem two (i j : Nat) {o o' : Oper} {n : Nat} {listed : Array Bool} {a : Act} {w : World} (hr : Region.ready md ops listed = [i, j]) (hi : ops[i]? = some o) (hj : ops[j]? = some o') (hg : o.guard = none) (hg' : o'.guard = none)
    (h : ∀ K : Act → World → Prop, Hid (∀ b v, (past zs (listed.setIfInBounds i true) = true ∨ S v) → ((past zs (listed.setIfInBounds i true) = true ∨ S v) → After P md ops Q S zs n (listed.setIfInBounds i true) b v) → K b v) → Oper.wp P o a w K Q)
    (h' : ∀ K : Act → World → Prop, Hid (∀ b v, (past zs (listed.setIfInBounds j true) = true ∨ S v) → ((past zs (listed.setIfInBounds j true) = true ∨ S v) → After P md ops Q S zs n (listed.setIfInBounds j true) b v) → K b v) → Oper.wp P o' a w K Q) : After P md ops Q S zs (n + 1) listed a w := by
  refine ⟨(fun h0 => (by rw [hr] at h0; cases h0)), fun k hk => ?_⟩
  rw [hr] at hk
  have hk' : k = i ∨ k = j := by simpa using hk
  rcases hk' with hk' | hk'
  · subst hk'
    unfold wpOp
    rw [hi]
    have hw : Region.wanted o (yielded ops a.tmps) = true := by simp [Region.wanted, hg]
    simp only [hw, if_true]
    exact .inl (h _ (Lib.hid fun b v hS hh => ⟨hS, hh hS⟩))
  · subst hk'
    unfold wpOp
    rw [hj]
    have hw : Region.wanted o' (yielded ops a.tmps) = true := by simp [Region.wanted, hg']
    simp only [hw, if_true]
    exact .inl (h' _ (Lib.hid fun b v hS hh => ⟨hS, hh hS⟩))
end
end Go.Proofs.Ytffppdcpiieapaa.Zreg

namespace Go.Proofs.Ytffppdcpiieapaa.Memc
open Go.RowKit
set_option linter.unusedVariables false
set_option maxRecDepth 100000

theorem append_where {P : Program} (w : World) (base : Nat) (t ty e : TypeId) (i : TypeInfo) (z : Value) (size bytes : Nat) (ht : P.underlying t = some (.slice e)) (hi : P.info? e = some i) (hz : i.zero = some z)
    (hsize : i.size = size) (hby : i.bytes = bytes) (hzs : z.cells.size = size) (hsz : 0 < size)
    (v : Value) (n : Nat) (xs : List Value) (hown : w.ownsRow base e size v n xs)
    (a : Addr) (c : Nat) (news : List Value) (hl : news.length = 1 * size) (hnews : ∀ j u, news[j]? = some u → w.cell? (a.add j) = some u) (h1 : ∀ u ∈ news, u.oneCell' = true)
    (h63 : n + 1 ≤ maxLen) (hbytes : (n + 1) * bytes ≤ 140737488355328) {v' : Value} {w' : World}
    (hr : (Builtin.append_ #[t, t] ty #[v, .slice (some a) 1 c]).run P w = .ok v' w') : ∀ g, v'.ownBlock = some g → v.ownBlock = some g ∨ g = w.heap.size := by
  subst hsize
  subst hby
  have hsmall : n + 1 ≤ 9223372036854775807 := by simp only [maxLen] at h63; omega
  rcases hown.2 with ⟨rfl, rfl⟩ | ⟨g, cap, cur, rfl, hbg, hg, hnc, hcm, hcs, htake⟩
  · have hq := run_append_nil (P := P) w t ty e i z ht hi hz a 1 c news hl hnews (by omega) (by omega) (by have hb := hbytes; simp only [Nat.zero_add] at hb; omega)
    rw [hq] at hr
    injection hr with hv hw
    subst hv
    intro g hg
    simp only [Value.ownBlock] at hg
    injection hg with hg
    exact .inr hg.symm
  · by_cases hroom : n + 1 ≤ cap
    · have hfit : n * i.size + news.length ≤ cur.size := by rw [hl, hcs, ← Nat.add_mul]; exact Nat.mul_le_mul_right _ hroom
      have hq := run_append_room (P := P) w t ty e i ht hi g n cap cur hg a 1 c news hl hnews h1 hroom hfit
      rw [hq] at hr
      injection hr with hv hw
      subst hv
      intro g' hg'
      exact .inl hg'
    · have holds : ∀ j u, xs[j]? = some u → w.cell? ((⟨g, 0, none⟩ : Addr).add j) = some u := hown.cells (g := g) rfl
      have hq := run_append_grow (P := P) w t ty e i z ht hi hz ⟨g, 0, none⟩ n cap xs hown.1 holds a 1 c news hl hnews (by omega) (by omega) (growslice_fits (by omega) hbytes)
      rw [hq] at hr
      injection hr with hv hw
      subst hv
      intro g' hg'
      simp only [Value.ownBlock] at hg'
      injection hg' with hg'
      exact .inr hg'.symm

theorem bl_own {s : Sl} {g : Nat} : bl s g ↔ (Value.slice s.A s.n s.c).ownBlock = some g := by
  obtain ⟨A, n, c⟩ := s
  cases A with
  | none => exact ⟨(fun ⟨ad, h, _⟩ => by cases h), (fun h => by cases h)⟩
  | some ad => exact ⟨(fun ⟨ad', h, he⟩ => by injection h with h; subst h; subst he; rfl), (fun h => by injection h with h; exact ⟨ad, rfl, h.symm⟩)⟩

/-- one more element -/
theorem wp_app2 {w : World} {o : Oper} {a : Act} {K : Act → World → Prop} {Q : Exit → Act → World → Prop} (x y : Operand) (t : TypeId) (ho : o.op = .call { callee := .builtin .append, args := #[x, y], argTypes := #[t, t] })
    (base : Nat) (E : TypeId) (i : TypeInfo) (z : Value) (size bytes : Nat) (ht : Try.prog.underlying t = some (.slice E)) (hi : Try.prog.info? E = some i) (hz : i.zero = some z) (hsize : i.size = size) (hby : i.bytes = bytes) (hzs : z.cells.size = size) (hsz : 0 < size)
    (s : Sl) (n : Nat) (xs : List Value) (hx : a.eval x = .slice s.A s.n s.c) (hown : Row w base E size s n xs) (gy : Nat) (news : List Value) (hy : a.eval y = .slice (some ⟨gy, 0, none⟩) 1 1) (hl : news.length = size)
    (hnews : ∀ j u, news[j]? = some u → w.cell? ⟨gy, j, none⟩ = some u) (h1 : ∀ u ∈ news, u.oneCell' = true) (h63 : n < 1000000) (hb1 : bytes ≤ 1000) (hb : base ≤ w.heap.size)
    (hk : ∀ s' w', Row w' base E size s' (n + 1) (xs ++ news) → Only (bl s) w w' → (∀ g, bl s' g → bl s g ∨ g = w.heap.size) → K (a.put o.dst (.slice s'.A s'.n s'.c)) w') : o.wp Try.prog a w K Q := by
  have hbb : (n + 1) * bytes ≤ 140737488355328 := Nat.le_trans (Nat.mul_le_mul (show n + 1 ≤ 1000000 by omega) hb1) (by omega)
  have hm63 : n + 1 ≤ maxLen := by unfold maxLen; omega
  have hnw : ∀ j u, news[j]? = some u → w.cell? ((⟨gy, 0, none⟩ : Addr).add j) = some u := fun j u hj => by
    rw [Addr.add_lit]
    simpa using hnews j u hj
  obtain ⟨v', w', hr, h2, h3, h4⟩ := run_append_own (P := Try.prog) w base t o.type E i z size bytes ht hi hz hsize hby hzs hsz _ n xs hown ⟨gy, 0, none⟩ 1 1 news (by omega) hnw h1 hm63 hbb hb
  have hwh := append_where (P := Try.prog) w base t o.type E i z size bytes ht hi hz hsize hby hzs hsz _ n xs hown ⟨gy, 0, none⟩ 1 news (by omega) hnw h1 hm63 hbb hr
  unfold Oper.wp execOp
  simp only [ho, resolve, invoke, builtin, Sem.run_bind, Sem.run_pure, Result.andThen_ok, List.map_toArray, List.map_cons, List.map_nil, hx, hy, hr]
  obtain ⟨s', rfl, hs'⟩ := row_sl h2
  exact hk s' w' hs' (only_grown h3) (fun g hg => (hwh g (bl_own.1 hg)).imp_left bl_own.2)
end Go.Proofs.Ytffppdcpiieapaa.Memc

namespace Go.Proofs.Ytffppdcpiieapaa.Zreg
open Go Go.RowKit
set_option linter.unusedVariables false
set_option maxRecDepth 100000
section
variable {P : Program} {ops : Array Oper} {Q : Exit → Act → World → Prop} {md : Region.Mode} {S : World → Prop} {zs : List Nat}

/-- number z waits for number i, by others between -/
def reach (md : Region.Mode) (ops : Array Oper) : Nat → Nat → Nat → Bool
  | 0, _, _ => false
  | f + 1, z, i => match ops[z]? with
    | none => false
    | some o => o.after.toList.any fun e => Region.binds md e && (e.on == i || reach md ops f e.on i)
def Closed (md : Region.Mode) (ops : Array Oper) (listed : Array Bool) : Prop :=
  ∀ y o, ops[y]? = some o → listed.getD y false = true → ∀ e ∈ o.after, Region.binds md e = true → listed.getD e.on false = true
def closedB (md : Region.Mode) (ops : Array Oper) (listed : Array Bool) : Bool :=
  (List.range ops.size).all fun y => !(listed.getD y false) || (match ops[y]? with
    | none => true
    | some o => o.after.all fun e => !(Region.binds md e) || listed.getD e.on false)
end
end Go.Proofs.Ytffppdcpiieapaa.Zreg

namespace Go.Proofs.Ytffppdcpiieapaa.Procc
open Go.RowKit Go.Proofs.Ytffppdcpiieapaa.Memc
set_option linter.unusedVariables false
set_option maxRecDepth 100000

theorem wpList_app2p {w : World} {ops : Array Oper} {rest : List Oper} {o : Oper} {a : Act} {Q : Exit → Act → World → Prop} (hgd : o.guard = none) (x y : Operand) (t : TypeId) (ho : o.op = .call { callee := .builtin .append, args := #[x, y], argTypes := #[t, t] })
    (base : Nat) (E : TypeId) (i : TypeInfo) (z : Value) (size bytes : Nat) (ht : Try.prog.underlying t = some (.slice E)) (hi : Try.prog.info? E = some i) (hz : i.zero = some z) (hsize : i.size = size) (hby : i.bytes = bytes) (hzs : z.cells.size = size) (hsz : 0 < size)
    (s : Sl) (n : Nat) (xs : List Value) (hx : a.eval x = .slice s.A s.n s.c) (hown : Row w base E size s n xs) (gy : Nat) (news : List Value) (hy : a.eval y = .slice (some ⟨gy, 0, none⟩) 1 1) (hl : news.length = size)
    (hnews : ∀ j u, news[j]? = some u → w.cell? ⟨gy, j, none⟩ = some u) (h1 : ∀ u ∈ news, u.oneCell' = true) (h63 : n < 1000000) (hb1 : bytes ≤ 1000) (hb : base ≤ w.heap.size)
    (hk : ∀ s' w', Row w' base E size s' (n + 1) (xs ++ news) → Only (bl s) w w' → (∀ g, bl s' g → bl s g ∨ g = w.heap.size) → wpList Try.prog ops Q rest (a.put o.dst (.slice s'.A s'.n s'.c)) w') : wpList Try.prog ops Q (o :: rest) a w :=
  wpList_plain hgd fun _ hK => wp_app2 x y t ho base E i z size bytes ht hi hz hsize hby hzs hsz s n xs hx hown gy news hy hl hnews h1 h63 hb1 hb fun s' w' h2 h3 h4 => hK _ _ (hk s' w' h2 h3 h4)
def SafeL (l : List Cap1) : Prop := ∀ x ∈ l, x.t ≠ 126 ∧ x.t ≠ 194 ∧ x.t ≠ 102 ∧ x.t ≠ 104 ∧ x.t ≠ 59 ∧ x.t ≠ 55 ∧ x.t ≠ 35 ∧ x.t ≠ 36
theorem Kept.only {Q : Nat → Prop} {w w' : World} {l : List Cap1} (h : Kept w l) (ho : Only Q w w') (hq : ∀ x ∈ l, ¬ Q x.g) : Kept w' l := fun x hx => (h x hx).only ho (hq x hx)
theorem Kept.alloc {w : World} {l : List Cap1} (h : Kept w l) (o : Obj) : Kept (w.alloc o) l := fun x hx => (h x hx).alloc o
theorem flatF_snoc (fs : List (Int × Bool)) (f : Int × Bool) : flatF (fs ++ [f]) = flatF fs ++ fcells f := by simp [flatF]
theorem Going.snoc {p : Pl} {fs : List (Int × Bool)} {a : Acc} (h : Going p fs) (ha : p fs = .ask a) (f : Int × Bool) (hf : 0 ≤ f.1 ∧ f.1 ≤ 18446744073709551615) : Going p (fs ++ [f]) := ⟨fun k hk => by
  rw [List.length_append] at hk
  simp only [List.length_cons, List.length_nil] at hk
  by_cases hlt : k < fs.length
  · rw [List.take_append_of_le_length (by omega)]
    exact h.1 k hlt
  · obtain rfl : k = fs.length := by omega
    rw [List.take_left]
    exact ⟨a, ha⟩, fun x hx => by
  rcases List.mem_append.1 hx with h1 | h1
  · exact h.2 x h1
  · rw [List.mem_singleton.1 h1]; exact hf⟩
theorem going_nil (p : Pl) : Going p [] := ⟨fun k hk => absurd hk (Nat.not_lt_zero _), fun x hx => by cases hx⟩

set_option maxHeartbeats 2000000 in
theorem nextg_first (w : World) (base P F : Nat) (cs : Array Value) (l : List Cap1) (p : Pl) (a : Acc)
    (hcs : cs = (l.map Cap1.ptr).toArray) (hme : Meets F l p) (hq : Blk w P 126 #[.func (.func F) #[] cs, .slice none 0 0, .bool false, .bool false, .int .i64 0, .int .u32 0]) (hk : Kept w l) (hsf : SafeL l) (hpf : p [] = .ask a) :
    Calls Try.prog 143 #[.pointer (some ⟨P, 0, none⟩), .int .u64 0, .bool false] w fun e w' => e = .returned (.tuple #[.agg #[.int .i64 a.d, .int .i64 a.ar, .int .i64 a.at_, .int .u64 a.old, .int .u64 a.new], .bool true]) ∧ Blk w' P 126 #[.func (.func F) #[] cs, .slice none 0 0, .bool true, .bool false, .int .i64 0, .int .u32 0] ∧ Only (fun g => g = P) w w' := by
  have hcq := hq.cell
  have hfq := hq.frozen
  have hzq := hq.lt
  have HQ := Lib.hid hq
  clear hq
  have HKL := Lib.hid hk
  have HSF := Lib.hid hsf
  have HME := Lib.hid hme
  have HCS := Lib.hid hcs
  have HPF := Lib.hid hpf
  clear hk hsf hme hcs hpf
  have BX : Hid (Blk (w.alloc (.cells #[.int .i64 0, .int .i64 0, .int .i64 0, .int .u64 0, .int .u64 0] 57)) w.heap.size 57 #[.int .i64 0, .int .i64 0, .int .i64 0, .int .u64 0, .int .u64 0]) := Lib.hid (Blk.new _ _ _)
  go_enter Try.func143, Try.ntmps143
  go_wp2_with fail
  have BQ := Lib.hid (HQ.out.alloc (.cells #[.int .i64 0, .int .i64 0, .int .i64 0, .int .u64 0, .int .u64 0] 57))
  have BL := Lib.hid (HKL.out.alloc (.cells #[.int .i64 0, .int .i64 0, .int .i64 0, .int .u64 0, .int .u64 0] 57))
  have OV : Hid (Only (fun g => g = P) w (w.alloc (.cells #[.int .i64 0, .int .i64 0, .int .i64 0, .int .u64 0, .int .u64 0] 57))) := Lib.hid ((Only.refl _ _).alloc _)
  have hz1 : w.heap.size < (w.alloc (.cells #[.int .i64 0, .int .i64 0, .int .i64 0, .int .u64 0, .int .u64 0] 57)).heap.size := by simp
  generalize w.alloc (.cells #[.int .i64 0, .int .i64 0, .int .i64 0, .int .u64 0, .int .u64 0] 57) = V at BX BQ BL OV hz1 ⊢
  refine (throughg_ask V base P F cs l p ⟨none, 0, 0⟩ [] a false false 0 0 HCS.out HME.out BQ.out (row_nil _ _ _ _) BL.out (Nat.zero_le _) (going_nil _) HPF.out).mono ?_
  rintro e w1 ⟨rfl, hq1, ho1⟩
  have Q1 := Lib.hid hq1
  have X1 := Lib.hid (BX.out.only ho1 (by omega))
  have O1 : Hid (Only (fun g => g = P) w w1) := Lib.hid (OV.out.next ho1 (fun k hk hg => hg))
  have hxq := Q1.out.cell
  have hxqf := Q1.out.frozen
  have hxx := X1.out.cell
  have hxxf := X1.out.frozen
  have n1 : ¬ P = w.heap.size := by omega
  have n2 : ¬ w.heap.size = P := by omega
  clear hq1 ho1 hcq hfq
  go_wp2
  go_region
  have XX : Hid (Blk ((((((((((((w1.setCell ⟨w.heap.size, 0, none⟩ (.int .i64 a.d)).setCell ⟨w.heap.size, 1, none⟩ (.int .i64 a.ar)).setCell ⟨w.heap.size, 2, none⟩ (.int .i64 a.at_)).setCell ⟨w.heap.size, 3, none⟩ (.int .u64 a.old)).setCell ⟨w.heap.size, 4, none⟩ (.int .u64 a.new)).setCell ⟨P, 2, none⟩ (.bool true)).setCell ⟨w.heap.size, 0, none⟩ (.int .i64 a.d)).setCell ⟨w.heap.size, 1, none⟩ (.int .i64 a.ar)).setCell ⟨w.heap.size, 2, none⟩ (.int .i64 a.at_)).setCell ⟨w.heap.size, 3, none⟩ (.int .u64 a.old)).setCell ⟨w.heap.size, 4, none⟩ (.int .u64 a.new)).drew) w.heap.size 57 #[.int .i64 a.d, .int .i64 a.ar, .int .i64 a.at_, .int .u64 a.old, .int .u64 a.new]) := Lib.hid (by have h_ := ((((((((((((X1.out).set_ 0 (.int .i64 a.d)).set_ 1 (.int .i64 a.ar)).set_ 2 (.int .i64 a.at_)).set_ 3 (.int .u64 a.old)).set_ 4 (.int .u64 a.new)).far (p := ⟨P, 2, none⟩) (show ¬ w.heap.size = P by omega) (.bool true)).set_ 0 (.int .i64 a.d)).set_ 1 (.int .i64 a.ar)).set_ 2 (.int .i64 a.at_)).set_ 3 (.int .u64 a.old)).set_ 4 (.int .u64 a.new)).drew; simpa only [List.setIfInBounds_toArray, List.set_cons_zero, List.set_cons_succ] using h_)
  have QQ : Hid (Blk ((((((((((((w1.setCell ⟨w.heap.size, 0, none⟩ (.int .i64 a.d)).setCell ⟨w.heap.size, 1, none⟩ (.int .i64 a.ar)).setCell ⟨w.heap.size, 2, none⟩ (.int .i64 a.at_)).setCell ⟨w.heap.size, 3, none⟩ (.int .u64 a.old)).setCell ⟨w.heap.size, 4, none⟩ (.int .u64 a.new)).setCell ⟨P, 2, none⟩ (.bool true)).setCell ⟨w.heap.size, 0, none⟩ (.int .i64 a.d)).setCell ⟨w.heap.size, 1, none⟩ (.int .i64 a.ar)).setCell ⟨w.heap.size, 2, none⟩ (.int .i64 a.at_)).setCell ⟨w.heap.size, 3, none⟩ (.int .u64 a.old)).setCell ⟨w.heap.size, 4, none⟩ (.int .u64 a.new)).drew) P 126 #[.func (.func F) #[] cs, .slice none 0 0, .bool true, .bool false, .int .i64 0, .int .u32 0]) := Lib.hid (by have h_ := ((((((((((((Q1.out).far (p := ⟨w.heap.size, 0, none⟩) (show ¬ P = w.heap.size by omega) (.int .i64 a.d)).far (p := ⟨w.heap.size, 1, none⟩) (show ¬ P = w.heap.size by omega) (.int .i64 a.ar)).far (p := ⟨w.heap.size, 2, none⟩) (show ¬ P = w.heap.size by omega) (.int .i64 a.at_)).far (p := ⟨w.heap.size, 3, none⟩) (show ¬ P = w.heap.size by omega) (.int .u64 a.old)).far (p := ⟨w.heap.size, 4, none⟩) (show ¬ P = w.heap.size by omega) (.int .u64 a.new)).set_ 2 (.bool true)).far (p := ⟨w.heap.size, 0, none⟩) (show ¬ P = w.heap.size by omega) (.int .i64 a.d)).far (p := ⟨w.heap.size, 1, none⟩) (show ¬ P = w.heap.size by omega) (.int .i64 a.ar)).far (p := ⟨w.heap.size, 2, none⟩) (show ¬ P = w.heap.size by omega) (.int .i64 a.at_)).far (p := ⟨w.heap.size, 3, none⟩) (show ¬ P = w.heap.size by omega) (.int .u64 a.old)).far (p := ⟨w.heap.size, 4, none⟩) (show ¬ P = w.heap.size by omega) (.int .u64 a.new)).drew; simpa only [List.setIfInBounds_toArray, List.set_cons_zero, List.set_cons_succ] using h_)
  have OO : Hid (Only (fun g => g = P) w ((((((((((((w1.setCell ⟨w.heap.size, 0, none⟩ (.int .i64 a.d)).setCell ⟨w.heap.size, 1, none⟩ (.int .i64 a.ar)).setCell ⟨w.heap.size, 2, none⟩ (.int .i64 a.at_)).setCell ⟨w.heap.size, 3, none⟩ (.int .u64 a.old)).setCell ⟨w.heap.size, 4, none⟩ (.int .u64 a.new)).setCell ⟨P, 2, none⟩ (.bool true)).setCell ⟨w.heap.size, 0, none⟩ (.int .i64 a.d)).setCell ⟨w.heap.size, 1, none⟩ (.int .i64 a.ar)).setCell ⟨w.heap.size, 2, none⟩ (.int .i64 a.at_)).setCell ⟨w.heap.size, 3, none⟩ (.int .u64 a.old)).setCell ⟨w.heap.size, 4, none⟩ (.int .u64 a.new)).drew)) := Lib.hid (((((((((((((O1.out).set_ ⟨w.heap.size, 0, none⟩ (.inr (Nat.le_refl _)) _).set_ ⟨w.heap.size, 1, none⟩ (.inr (Nat.le_refl _)) _).set_ ⟨w.heap.size, 2, none⟩ (.inr (Nat.le_refl _)) _).set_ ⟨w.heap.size, 3, none⟩ (.inr (Nat.le_refl _)) _).set_ ⟨w.heap.size, 4, none⟩ (.inr (Nat.le_refl _)) _).set_ ⟨P, 2, none⟩ (.inl rfl) _).set_ ⟨w.heap.size, 0, none⟩ (.inr (Nat.le_refl _)) _).set_ ⟨w.heap.size, 1, none⟩ (.inr (Nat.le_refl _)) _).set_ ⟨w.heap.size, 2, none⟩ (.inr (Nat.le_refl _)) _).set_ ⟨w.heap.size, 3, none⟩ (.inr (Nat.le_refl _)) _).set_ ⟨w.heap.size, 4, none⟩ (.inr (Nat.le_refl _)) _).drew)
  generalize ((((((((((((w1.setCell ⟨w.heap.size, 0, none⟩ (.int .i64 a.d)).setCell ⟨w.heap.size, 1, none⟩ (.int .i64 a.ar)).setCell ⟨w.heap.size, 2, none⟩ (.int .i64 a.at_)).setCell ⟨w.heap.size, 3, none⟩ (.int .u64 a.old)).setCell ⟨w.heap.size, 4, none⟩ (.int .u64 a.new)).setCell ⟨P, 2, none⟩ (.bool true)).setCell ⟨w.heap.size, 0, none⟩ (.int .i64 a.d)).setCell ⟨w.heap.size, 1, none⟩ (.int .i64 a.ar)).setCell ⟨w.heap.size, 2, none⟩ (.int .i64 a.at_)).setCell ⟨w.heap.size, 3, none⟩ (.int .u64 a.old)).setCell ⟨w.heap.size, 4, none⟩ (.int .u64 a.new)).drew) = W5 at XX QQ OO ⊢
  have hx5 := XX.out.cell
  clear hxq hxqf hxx hxxf
  go_wp2
  refine bodyPost_ret (v := .tuple #[.agg #[.int .i64 a.d, .int .i64 a.ar, .int .i64 a.at_, .int .u64 a.old, .int .u64 a.new], .bool true]) (by simp [results, Try.results143, go_sem, hx5]) rfl ⟨rfl, QQ.out, OO.out⟩

set_option maxHeartbeats 4000000 in
theorem nextg_ask (w : World) (base P F : Nat) (cs : Array Value) (l : List Cap1) (p : Pl) (s : Sl) (fs : List (Int × Bool)) (a : Acc) (was : Int) (dn : Bool)
    (hcs : cs = (l.map Cap1.ptr).toArray) (hme : Meets F l p) (hq : Blk w P 126 #[.func (.func F) #[] cs, .slice s.A s.n s.c, .bool true, .bool false, .int .i64 0, .int .u32 0]) (hr : Row w base 194 2 s fs.length (flatF fs)) (hk : Kept w l) (hsf : SafeL l) (hn : fs.length < 100000) (hg : Going p (fs ++ [(was, dn)])) (hb : base ≤ w.heap.size) (hpf : p (fs ++ [(was, dn)]) = .ask a) :
    Calls Try.prog 143 #[.pointer (some ⟨P, 0, none⟩), .int .u64 was, .bool dn] w fun e w' => ∃ s1 : Sl, e = .returned (.tuple #[.agg #[.int .i64 a.d, .int .i64 a.ar, .int .i64 a.at_, .int .u64 a.old, .int .u64 a.new], .bool true]) ∧ Blk w' P 126 #[.func (.func F) #[] cs, .slice s1.A s1.n s1.c, .bool true, .bool false, .int .i64 0, .int .u32 0] ∧ Row w' base 194 2 s1 (fs ++ [(was, dn)]).length (flatF (fs ++ [(was, dn)])) ∧ Only (fun g => g = P ∨ bl s g) w w' ∧ ∀ g, bl s1 g → bl s g ∨ w.heap.size ≤ g := by
  have hcq := hq.cell
  have hfq := hq.frozen
  have hzq := hq.lt
  have HQ := Lib.hid hq
  clear hq
  obtain ⟨i0, hi0, hz0, hz1, hz2⟩ := info_parts finding_cell
  have HR := Lib.hid hr
  have HKL := Lib.hid hk
  have HSF := Lib.hid hsf
  have HME := Lib.hid hme
  have HCS := Lib.hid hcs
  have HPF := Lib.hid hpf
  have HG := Lib.hid hg
  have HB := Lib.hid hb
  clear hr hk hsf hme hcs hpf hg hb
  have BX : Hid (Blk ((w.alloc (.cells #[.int .i64 0, .int .i64 0, .int .i64 0, .int .u64 0, .int .u64 0] 57)).alloc (.cells #[.int .u64 was, .bool dn] 194)) w.heap.size 57 #[.int .i64 0, .int .i64 0, .int .i64 0, .int .u64 0, .int .u64 0]) := Lib.hid ((Blk.new _ _ _).alloc _)
  have BF : Hid (Blk ((w.alloc (.cells #[.int .i64 0, .int .i64 0, .int .i64 0, .int .u64 0, .int .u64 0] 57)).alloc (.cells #[.int .u64 was, .bool dn] 194)) (w.heap.size + 1) 194 #[.int .u64 was, .bool dn]) := Lib.hid (blk_at (by simp))
  have BQ := Lib.hid ((HQ.out.alloc (.cells #[.int .i64 0, .int .i64 0, .int .i64 0, .int .u64 0, .int .u64 0] 57)).alloc (.cells #[.int .u64 was, .bool dn] 194))
  have BR := Lib.hid ((HR.out.alloc (.cells #[.int .i64 0, .int .i64 0, .int .i64 0, .int .u64 0, .int .u64 0] 57)).alloc (.cells #[.int .u64 was, .bool dn] 194))
  have BL := Lib.hid ((HKL.out.alloc (.cells #[.int .i64 0, .int .i64 0, .int .i64 0, .int .u64 0, .int .u64 0] 57)).alloc (.cells #[.int .u64 was, .bool dn] 194))
  have OV : Hid (Only (fun g => g = P ∨ bl s g) w ((w.alloc (.cells #[.int .i64 0, .int .i64 0, .int .i64 0, .int .u64 0, .int .u64 0] 57)).alloc (.cells #[.int .u64 was, .bool dn] 194))) := Lib.hid (((Only.refl _ _).alloc _).alloc _)
  have hnews : ∀ (j : Nat) (u : Value), ([.int .u64 was, .bool dn] : List Value)[j]? = some u → (((w.alloc (.cells #[.int .i64 0, .int .i64 0, .int .i64 0, .int .u64 0, .int .u64 0] 57)).alloc (.cells #[.int .u64 was, .bool dn] 194))).cell? ⟨w.heap.size + 1, j, none⟩ = some u := fun j u hj => (BF.out.cell j).trans (by simpa using hj)
  have HNW := Lib.hid hnews
  have NX_ : Hid (∀ g, bl s g → ¬ g = w.heap.size) := Lib.hid (fun g hg e => by have := (HR.out.lt hg).2; omega)
  have NQ : Hid (∀ g, bl s g → ¬ g = P) := Lib.hid (fun g hg => HR.out.ne HQ.out (by decide) g hg)
  have hq1 : P < w.heap.size + 1 := by omega
  clear hnews
  go_enter Try.func143, Try.ntmps143
  go_wp2_with (at_builtin; refine wpList_app2p rfl _ _ 124 rfl base 194 i0 _ 2 16 Try.underlying124 hi0 hz0 hz1 hz2 rfl (by decide) s fs.length (flatF fs) rfl BR.out (w.heap.size + 1) [.int .u64 was, .bool dn] rfl rfl HNW.out (by simp [Value.oneCell']) (by omega) (by decide) (Nat.le_trans HB.out (by simp; omega)) ?_; intro s1 w1 hr1 ho1 hw1; go_must (have R1 := Lib.hid hr1; have Q1 := Lib.hid (BQ.out.only ho1 (fun hb => NQ.out P hb rfl)); have X1 := Lib.hid (BX.out.only ho1 (fun hb => NX_.out _ hb rfl)); have L1 := Lib.hid (BL.out.only ho1 (fun x hx hb => BR.out.ne (BL.out x hx) (Ne.symm (HSF.out x hx).2.1) _ hb rfl)); have O1 : Hid (Only (fun g => g = P ∨ bl s g) w w1) := Lib.hid (OV.out.next ho1 (fun k hk hb => .inr hb)); have HW1 : Hid (∀ g, bl s1 g → bl s g ∨ w.heap.size ≤ g) := Lib.hid (fun g hg => (hw1 g hg).imp_right (fun e => by rw [e]; simp; omega)); have hq1c := Q1.out.cell; have hq1f := Q1.out.frozen); clear hr1 ho1 hw1)
  have Q2 : Hid (Blk (w1.setCell ⟨P, 1, none⟩ (.slice s1.A s1.n s1.c)) P 126 #[.func (.func F) #[] cs, .slice s1.A s1.n s1.c, .bool true, .bool false, .int .i64 0, .int .u32 0]) := Lib.hid (by have h_ := (Q1.out).set_ 1 (.slice s1.A s1.n s1.c); simpa only [List.setIfInBounds_toArray, List.set_cons_zero, List.set_cons_succ] using h_)
  have X2 := Lib.hid (X1.out.far (p := ⟨P, 1, none⟩) (show ¬ w.heap.size = P by omega) (.slice s1.A s1.n s1.c))
  have L2 : Hid (Kept (w1.setCell ⟨P, 1, none⟩ (.slice s1.A s1.n s1.c)) l) := Lib.hid (fun x hx => (L1.out x hx).far (p := ⟨P, 1, none⟩) (Blk.ne (L1.out x hx) Q1.out (HSF.out x hx).1) (.slice s1.A s1.n s1.c))
  have R2 := Lib.hid (R1.out.kept (w' := w1.setCell ⟨P, 1, none⟩ (.slice s1.A s1.n s1.c)) (fun g hg => Below.heap_setCell _ _ _ _ (R1.out.ne Q1.out (by decide) g hg)))
  have O2 := Lib.hid (O1.out.set_ ⟨P, 1, none⟩ (.inl (.inl rfl)) (.slice s1.A s1.n s1.c))
  generalize w1.setCell ⟨P, 1, none⟩ (.slice s1.A s1.n s1.c) = V at Q2 X2 L2 R2 O2 ⊢
  have R3 : Hid (Row V base 194 2 s1 (fs ++ [(was, dn)]).length (flatF (fs ++ [(was, dn)]))) := Lib.hid (by rw [List.length_append, flatF_snoc]; exact R2.out)
  clear hq1c hq1f hcq hfq R1 Q1 X1 L1
  refine (throughg_ask V base P F cs l p s1 (fs ++ [(was, dn)]) a true false 0 0 HCS.out HME.out Q2.out R3.out L2.out (by rw [List.length_append]; simp only [List.length_cons, List.length_nil]; omega) HG.out HPF.out).mono ?_
  rintro e w3 ⟨rfl, hq3, ho3⟩
  have hzX := X2.out.lt
  have Q3 := Lib.hid hq3
  have X3 := Lib.hid (X2.out.only ho3 (by omega))
  have R4 := Lib.hid (R3.out.only ho3 (fun g hg => R3.out.ne Q2.out (by decide) g hg))
  have NX1 : Hid (∀ g, bl s1 g → ¬ g = w.heap.size) := Lib.hid (fun g hg => R4.out.ne X3.out (by decide) g hg)
  have NQ1 : Hid (∀ g, bl s1 g → ¬ g = P) := Lib.hid (fun g hg => R4.out.ne Q3.out (by decide) g hg)
  have O3 : Hid (Only (fun g => g = P ∨ bl s g) w w3) := Lib.hid (O2.out.next ho3 (fun k hk hg => .inl hg))
  have hxq := Q3.out.cell
  have hxqf := Q3.out.frozen
  have hxx := X3.out.cell
  have hxxf := X3.out.frozen
  have n1 : ¬ P = w.heap.size := by omega
  have n2 : ¬ w.heap.size = P := by omega
  clear hq3 ho3
  go_wp2
  go_region
  have XX : Hid (Blk ((((((((((((w3.setCell ⟨w.heap.size, 0, none⟩ (.int .i64 a.d)).setCell ⟨w.heap.size, 1, none⟩ (.int .i64 a.ar)).setCell ⟨w.heap.size, 2, none⟩ (.int .i64 a.at_)).setCell ⟨w.heap.size, 3, none⟩ (.int .u64 a.old)).setCell ⟨w.heap.size, 4, none⟩ (.int .u64 a.new)).setCell ⟨P, 2, none⟩ (.bool true)).setCell ⟨w.heap.size, 0, none⟩ (.int .i64 a.d)).setCell ⟨w.heap.size, 1, none⟩ (.int .i64 a.ar)).setCell ⟨w.heap.size, 2, none⟩ (.int .i64 a.at_)).setCell ⟨w.heap.size, 3, none⟩ (.int .u64 a.old)).setCell ⟨w.heap.size, 4, none⟩ (.int .u64 a.new)).drew) w.heap.size 57 #[.int .i64 a.d, .int .i64 a.ar, .int .i64 a.at_, .int .u64 a.old, .int .u64 a.new]) := Lib.hid (by have h_ := ((((((((((((X3.out).set_ 0 (.int .i64 a.d)).set_ 1 (.int .i64 a.ar)).set_ 2 (.int .i64 a.at_)).set_ 3 (.int .u64 a.old)).set_ 4 (.int .u64 a.new)).far (p := ⟨P, 2, none⟩) (show ¬ w.heap.size = P by omega) (.bool true)).set_ 0 (.int .i64 a.d)).set_ 1 (.int .i64 a.ar)).set_ 2 (.int .i64 a.at_)).set_ 3 (.int .u64 a.old)).set_ 4 (.int .u64 a.new)).drew; simpa only [List.setIfInBounds_toArray, List.set_cons_zero, List.set_cons_succ] using h_)
  have QQ : Hid (Blk ((((((((((((w3.setCell ⟨w.heap.size, 0, none⟩ (.int .i64 a.d)).setCell ⟨w.heap.size, 1, none⟩ (.int .i64 a.ar)).setCell ⟨w.heap.size, 2, none⟩ (.int .i64 a.at_)).setCell ⟨w.heap.size, 3, none⟩ (.int .u64 a.old)).setCell ⟨w.heap.size, 4, none⟩ (.int .u64 a.new)).setCell ⟨P, 2, none⟩ (.bool true)).setCell ⟨w.heap.size, 0, none⟩ (.int .i64 a.d)).setCell ⟨w.heap.size, 1, none⟩ (.int .i64 a.ar)).setCell ⟨w.heap.size, 2, none⟩ (.int .i64 a.at_)).setCell ⟨w.heap.size, 3, none⟩ (.int .u64 a.old)).setCell ⟨w.heap.size, 4, none⟩ (.int .u64 a.new)).drew) P 126 #[.func (.func F) #[] cs, .slice s1.A s1.n s1.c, .bool true, .bool false, .int .i64 0, .int .u32 0]) := Lib.hid (by have h_ := ((((((((((((Q3.out).far (p := ⟨w.heap.size, 0, none⟩) (show ¬ P = w.heap.size by omega) (.int .i64 a.d)).far (p := ⟨w.heap.size, 1, none⟩) (show ¬ P = w.heap.size by omega) (.int .i64 a.ar)).far (p := ⟨w.heap.size, 2, none⟩) (show ¬ P = w.heap.size by omega) (.int .i64 a.at_)).far (p := ⟨w.heap.size, 3, none⟩) (show ¬ P = w.heap.size by omega) (.int .u64 a.old)).far (p := ⟨w.heap.size, 4, none⟩) (show ¬ P = w.heap.size by omega) (.int .u64 a.new)).set_ 2 (.bool true)).far (p := ⟨w.heap.size, 0, none⟩) (show ¬ P = w.heap.size by omega) (.int .i64 a.d)).far (p := ⟨w.heap.size, 1, none⟩) (show ¬ P = w.heap.size by omega) (.int .i64 a.ar)).far (p := ⟨w.heap.size, 2, none⟩) (show ¬ P = w.heap.size by omega) (.int .i64 a.at_)).far (p := ⟨w.heap.size, 3, none⟩) (show ¬ P = w.heap.size by omega) (.int .u64 a.old)).far (p := ⟨w.heap.size, 4, none⟩) (show ¬ P = w.heap.size by omega) (.int .u64 a.new)).drew; simpa only [List.setIfInBounds_toArray, List.set_cons_zero, List.set_cons_succ] using h_)
  have OO : Hid (Only (fun g => g = P ∨ bl s g) w ((((((((((((w3.setCell ⟨w.heap.size, 0, none⟩ (.int .i64 a.d)).setCell ⟨w.heap.size, 1, none⟩ (.int .i64 a.ar)).setCell ⟨w.heap.size, 2, none⟩ (.int .i64 a.at_)).setCell ⟨w.heap.size, 3, none⟩ (.int .u64 a.old)).setCell ⟨w.heap.size, 4, none⟩ (.int .u64 a.new)).setCell ⟨P, 2, none⟩ (.bool true)).setCell ⟨w.heap.size, 0, none⟩ (.int .i64 a.d)).setCell ⟨w.heap.size, 1, none⟩ (.int .i64 a.ar)).setCell ⟨w.heap.size, 2, none⟩ (.int .i64 a.at_)).setCell ⟨w.heap.size, 3, none⟩ (.int .u64 a.old)).setCell ⟨w.heap.size, 4, none⟩ (.int .u64 a.new)).drew)) := Lib.hid (((((((((((((O3.out).set_ ⟨w.heap.size, 0, none⟩ (.inr (Nat.le_refl _)) _).set_ ⟨w.heap.size, 1, none⟩ (.inr (Nat.le_refl _)) _).set_ ⟨w.heap.size, 2, none⟩ (.inr (Nat.le_refl _)) _).set_ ⟨w.heap.size, 3, none⟩ (.inr (Nat.le_refl _)) _).set_ ⟨w.heap.size, 4, none⟩ (.inr (Nat.le_refl _)) _).set_ ⟨P, 2, none⟩ (.inl (.inl rfl)) _).set_ ⟨w.heap.size, 0, none⟩ (.inr (Nat.le_refl _)) _).set_ ⟨w.heap.size, 1, none⟩ (.inr (Nat.le_refl _)) _).set_ ⟨w.heap.size, 2, none⟩ (.inr (Nat.le_refl _)) _).set_ ⟨w.heap.size, 3, none⟩ (.inr (Nat.le_refl _)) _).set_ ⟨w.heap.size, 4, none⟩ (.inr (Nat.le_refl _)) _).drew)
  have O4 : Hid (Only (fun g => g = P ∨ g = w.heap.size) w3 ((((((((((((w3.setCell ⟨w.heap.size, 0, none⟩ (.int .i64 a.d)).setCell ⟨w.heap.size, 1, none⟩ (.int .i64 a.ar)).setCell ⟨w.heap.size, 2, none⟩ (.int .i64 a.at_)).setCell ⟨w.heap.size, 3, none⟩ (.int .u64 a.old)).setCell ⟨w.heap.size, 4, none⟩ (.int .u64 a.new)).setCell ⟨P, 2, none⟩ (.bool true)).setCell ⟨w.heap.size, 0, none⟩ (.int .i64 a.d)).setCell ⟨w.heap.size, 1, none⟩ (.int .i64 a.ar)).setCell ⟨w.heap.size, 2, none⟩ (.int .i64 a.at_)).setCell ⟨w.heap.size, 3, none⟩ (.int .u64 a.old)).setCell ⟨w.heap.size, 4, none⟩ (.int .u64 a.new)).drew)) := Lib.hid ((((((((((((((Only.refl (fun g => g = P ∨ g = w.heap.size) w3)).set_ ⟨w.heap.size, 0, none⟩ (.inl (.inr rfl)) _).set_ ⟨w.heap.size, 1, none⟩ (.inl (.inr rfl)) _).set_ ⟨w.heap.size, 2, none⟩ (.inl (.inr rfl)) _).set_ ⟨w.heap.size, 3, none⟩ (.inl (.inr rfl)) _).set_ ⟨w.heap.size, 4, none⟩ (.inl (.inr rfl)) _).set_ ⟨P, 2, none⟩ (.inl (.inl rfl)) _).set_ ⟨w.heap.size, 0, none⟩ (.inl (.inr rfl)) _).set_ ⟨w.heap.size, 1, none⟩ (.inl (.inr rfl)) _).set_ ⟨w.heap.size, 2, none⟩ (.inl (.inr rfl)) _).set_ ⟨w.heap.size, 3, none⟩ (.inl (.inr rfl)) _).set_ ⟨w.heap.size, 4, none⟩ (.inl (.inr rfl)) _).drew)
  have RR := Lib.hid (R4.out.only O4.out (fun g hg e => by
    rcases e with e | e
    · exact NQ1.out g hg e
    · exact NX1.out g hg e))
  generalize ((((((((((((w3.setCell ⟨w.heap.size, 0, none⟩ (.int .i64 a.d)).setCell ⟨w.heap.size, 1, none⟩ (.int .i64 a.ar)).setCell ⟨w.heap.size, 2, none⟩ (.int .i64 a.at_)).setCell ⟨w.heap.size, 3, none⟩ (.int .u64 a.old)).setCell ⟨w.heap.size, 4, none⟩ (.int .u64 a.new)).setCell ⟨P, 2, none⟩ (.bool true)).setCell ⟨w.heap.size, 0, none⟩ (.int .i64 a.d)).setCell ⟨w.heap.size, 1, none⟩ (.int .i64 a.ar)).setCell ⟨w.heap.size, 2, none⟩ (.int .i64 a.at_)).setCell ⟨w.heap.size, 3, none⟩ (.int .u64 a.old)).setCell ⟨w.heap.size, 4, none⟩ (.int .u64 a.new)).drew) = W5 at XX QQ OO RR ⊢
  have hx5 := XX.out.cell
  clear hxq hxqf hxx hxxf O4
  go_wp2
  refine bodyPost_ret (v := .tuple #[.agg #[.int .i64 a.d, .int .i64 a.ar, .int .i64 a.at_, .int .u64 a.old, .int .u64 a.new], .bool true]) (by simp [results, Try.results143, go_sem, hx5]) rfl ⟨s1, rfl, QQ.out, RR.out, OO.out, HW1.out⟩

set_option maxHeartbeats 4000000 in
theorem nextg_fin (w : World) (base P F : Nat) (cs : Array Value) (l : List Cap1) (p : Pl) (s : Sl) (fs : List (Int × Bool)) (cd2 ou2 : Int) (was : Int) (dn : Bool)
    (hcs : cs = (l.map Cap1.ptr).toArray) (hme : Meets F l p) (hq : Blk w P 126 #[.func (.func F) #[] cs, .slice s.A s.n s.c, .bool true, .bool false, .int .i64 0, .int .u32 0]) (hr : Row w base 194 2 s fs.length (flatF fs)) (hk : Kept w l) (hsf : SafeL l) (hn : fs.length < 100000) (hg : Going p (fs ++ [(was, dn)])) (hb : base ≤ w.heap.size) (hpf : p (fs ++ [(was, dn)]) = .fin cd2 ou2) :
    Calls Try.prog 143 #[.pointer (some ⟨P, 0, none⟩), .int .u64 was, .bool dn] w fun e w' => e = .returned (.tuple #[.agg #[.int .i64 0, .int .i64 0, .int .i64 0, .int .u64 0, .int .u64 0], .bool false]) ∧ Over w' P cd2 ou2 ∧ Only (fun g => g = P ∨ bl s g) w w' := by
  have hcq := hq.cell
  have hfq := hq.frozen
  have hzq := hq.lt
  have HQ := Lib.hid hq
  clear hq
  obtain ⟨i0, hi0, hz0, hz1, hz2⟩ := info_parts finding_cell
  have HR := Lib.hid hr
  have HKL := Lib.hid hk
  have HSF := Lib.hid hsf
  have HME := Lib.hid hme
  have HCS := Lib.hid hcs
  have HPF := Lib.hid hpf
  have HG := Lib.hid hg
  have HB := Lib.hid hb
  clear hr hk hsf hme hcs hpf hg hb
  have BX : Hid (Blk ((w.alloc (.cells #[.int .i64 0, .int .i64 0, .int .i64 0, .int .u64 0, .int .u64 0] 57)).alloc (.cells #[.int .u64 was, .bool dn] 194)) w.heap.size 57 #[.int .i64 0, .int .i64 0, .int .i64 0, .int .u64 0, .int .u64 0]) := Lib.hid ((Blk.new _ _ _).alloc _)
  have BF : Hid (Blk ((w.alloc (.cells #[.int .i64 0, .int .i64 0, .int .i64 0, .int .u64 0, .int .u64 0] 57)).alloc (.cells #[.int .u64 was, .bool dn] 194)) (w.heap.size + 1) 194 #[.int .u64 was, .bool dn]) := Lib.hid (blk_at (by simp))
  have BQ := Lib.hid ((HQ.out.alloc (.cells #[.int .i64 0, .int .i64 0, .int .i64 0, .int .u64 0, .int .u64 0] 57)).alloc (.cells #[.int .u64 was, .bool dn] 194))
  have BR := Lib.hid ((HR.out.alloc (.cells #[.int .i64 0, .int .i64 0, .int .i64 0, .int .u64 0, .int .u64 0] 57)).alloc (.cells #[.int .u64 was, .bool dn] 194))
  have BL := Lib.hid ((HKL.out.alloc (.cells #[.int .i64 0, .int .i64 0, .int .i64 0, .int .u64 0, .int .u64 0] 57)).alloc (.cells #[.int .u64 was, .bool dn] 194))
  have OV : Hid (Only (fun g => g = P ∨ bl s g) w ((w.alloc (.cells #[.int .i64 0, .int .i64 0, .int .i64 0, .int .u64 0, .int .u64 0] 57)).alloc (.cells #[.int .u64 was, .bool dn] 194))) := Lib.hid (((Only.refl _ _).alloc _).alloc _)
  have hnews : ∀ (j : Nat) (u : Value), ([.int .u64 was, .bool dn] : List Value)[j]? = some u → (((w.alloc (.cells #[.int .i64 0, .int .i64 0, .int .i64 0, .int .u64 0, .int .u64 0] 57)).alloc (.cells #[.int .u64 was, .bool dn] 194))).cell? ⟨w.heap.size + 1, j, none⟩ = some u := fun j u hj => (BF.out.cell j).trans (by simpa using hj)
  have HNW := Lib.hid hnews
  have NX_ : Hid (∀ g, bl s g → ¬ g = w.heap.size) := Lib.hid (fun g hg e => by have := (HR.out.lt hg).2; omega)
  have NQ : Hid (∀ g, bl s g → ¬ g = P) := Lib.hid (fun g hg => HR.out.ne HQ.out (by decide) g hg)
  have hq1 : P < w.heap.size + 1 := by omega
  clear hnews
  go_enter Try.func143, Try.ntmps143
  go_wp2_with (at_builtin; refine wpList_app2p rfl _ _ 124 rfl base 194 i0 _ 2 16 Try.underlying124 hi0 hz0 hz1 hz2 rfl (by decide) s fs.length (flatF fs) rfl BR.out (w.heap.size + 1) [.int .u64 was, .bool dn] rfl rfl HNW.out (by simp [Value.oneCell']) (by omega) (by decide) (Nat.le_trans HB.out (by simp; omega)) ?_; intro s1 w1 hr1 ho1 hw1; go_must (have R1 := Lib.hid hr1; have Q1 := Lib.hid (BQ.out.only ho1 (fun hb => NQ.out P hb rfl)); have X1 := Lib.hid (BX.out.only ho1 (fun hb => NX_.out _ hb rfl)); have L1 := Lib.hid (BL.out.only ho1 (fun x hx hb => BR.out.ne (BL.out x hx) (Ne.symm (HSF.out x hx).2.1) _ hb rfl)); have O1 : Hid (Only (fun g => g = P ∨ bl s g) w w1) := Lib.hid (OV.out.next ho1 (fun k hk hb => .inr hb)); have HW1 : Hid (∀ g, bl s1 g → bl s g ∨ w.heap.size ≤ g) := Lib.hid (fun g hg => (hw1 g hg).imp_right (fun e => by rw [e]; simp; omega)); have hq1c := Q1.out.cell; have hq1f := Q1.out.frozen); clear hr1 ho1 hw1)
  have Q2 : Hid (Blk (w1.setCell ⟨P, 1, none⟩ (.slice s1.A s1.n s1.c)) P 126 #[.func (.func F) #[] cs, .slice s1.A s1.n s1.c, .bool true, .bool false, .int .i64 0, .int .u32 0]) := Lib.hid (by have h_ := (Q1.out).set_ 1 (.slice s1.A s1.n s1.c); simpa only [List.setIfInBounds_toArray, List.set_cons_zero, List.set_cons_succ] using h_)
  have X2 := Lib.hid (X1.out.far (p := ⟨P, 1, none⟩) (show ¬ w.heap.size = P by omega) (.slice s1.A s1.n s1.c))
  have L2 : Hid (Kept (w1.setCell ⟨P, 1, none⟩ (.slice s1.A s1.n s1.c)) l) := Lib.hid (fun x hx => (L1.out x hx).far (p := ⟨P, 1, none⟩) (Blk.ne (L1.out x hx) Q1.out (HSF.out x hx).1) (.slice s1.A s1.n s1.c))
  have R2 := Lib.hid (R1.out.kept (w' := w1.setCell ⟨P, 1, none⟩ (.slice s1.A s1.n s1.c)) (fun g hg => Below.heap_setCell _ _ _ _ (R1.out.ne Q1.out (by decide) g hg)))
  have O2 := Lib.hid (O1.out.set_ ⟨P, 1, none⟩ (.inl (.inl rfl)) (.slice s1.A s1.n s1.c))
  generalize w1.setCell ⟨P, 1, none⟩ (.slice s1.A s1.n s1.c) = V at Q2 X2 L2 R2 O2 ⊢
  have R3 : Hid (Row V base 194 2 s1 (fs ++ [(was, dn)]).length (flatF (fs ++ [(was, dn)]))) := Lib.hid (by rw [List.length_append, flatF_snoc]; exact R2.out)
  clear hq1c hq1f hcq hfq R1 Q1 X1 L1
  refine (throughg_fin V base P F cs l p s1 (fs ++ [(was, dn)]) true false 0 0 cd2 ou2 HCS.out HME.out Q2.out R3.out L2.out (by rw [List.length_append]; simp only [List.length_cons, List.length_nil]; omega) HG.out HPF.out).mono ?_
  rintro e w3 ⟨rfl, hq3, ho3⟩
  have hzX := X2.out.lt
  have Q3 := Lib.hid hq3
  have X3 := Lib.hid (X2.out.only ho3 (by omega))
  have O3 : Hid (Only (fun g => g = P ∨ bl s g) w w3) := Lib.hid (O2.out.next ho3 (fun k hk hg => .inl hg))
  have hxq := Q3.out.cell
  have hxqf := Q3.out.frozen
  have hxx := X3.out.cell
  have hxxf := X3.out.frozen
  have n1 : ¬ P = w.heap.size := by omega
  have n2 : ¬ w.heap.size = P := by omega
  clear hq3 ho3
  go_wp2_with fail
  have X4 : Hid (Blk ((((((w3.setCell ⟨w.heap.size, 0, none⟩ (.int .i64 0)).setCell ⟨w.heap.size, 1, none⟩ (.int .i64 0)).setCell ⟨w.heap.size, 2, none⟩ (.int .i64 0)).setCell ⟨w.heap.size, 3, none⟩ (.int .u64 0)).setCell ⟨w.heap.size, 4, none⟩ (.int .u64 0)).setCell ⟨P, 2, none⟩ (.bool false)) w.heap.size 57 #[.int .i64 0, .int .i64 0, .int .i64 0, .int .u64 0, .int .u64 0]) := Lib.hid (by have h_ := ((((((X3.out).set_ 0 (.int .i64 0)).set_ 1 (.int .i64 0)).set_ 2 (.int .i64 0)).set_ 3 (.int .u64 0)).set_ 4 (.int .u64 0)).far (p := ⟨P, 2, none⟩) (show ¬ w.heap.size = P by omega) (.bool false); simpa only [List.setIfInBounds_toArray, List.set_cons_zero, List.set_cons_succ] using h_)
  have Q4 : Hid (Blk ((((((w3.setCell ⟨w.heap.size, 0, none⟩ (.int .i64 0)).setCell ⟨w.heap.size, 1, none⟩ (.int .i64 0)).setCell ⟨w.heap.size, 2, none⟩ (.int .i64 0)).setCell ⟨w.heap.size, 3, none⟩ (.int .u64 0)).setCell ⟨w.heap.size, 4, none⟩ (.int .u64 0)).setCell ⟨P, 2, none⟩ (.bool false)) P 126 #[.func (.func F) #[] cs, (.slice s1.A s1.n s1.c), .bool false, .bool false, .int .i64 cd2, .int .u32 ou2]) := Lib.hid (by have h_ := ((((((Q3.out).far (p := ⟨w.heap.size, 0, none⟩) (show ¬ P = w.heap.size by omega) (.int .i64 0)).far (p := ⟨w.heap.size, 1, none⟩) (show ¬ P = w.heap.size by omega) (.int .i64 0)).far (p := ⟨w.heap.size, 2, none⟩) (show ¬ P = w.heap.size by omega) (.int .i64 0)).far (p := ⟨w.heap.size, 3, none⟩) (show ¬ P = w.heap.size by omega) (.int .u64 0)).far (p := ⟨w.heap.size, 4, none⟩) (show ¬ P = w.heap.size by omega) (.int .u64 0)).set_ 2 (.bool false); simpa only [List.setIfInBounds_toArray, List.set_cons_zero, List.set_cons_succ] using h_)
  have O4 : Hid (Only (fun g => g = P ∨ bl s g) w ((((((w3.setCell ⟨w.heap.size, 0, none⟩ (.int .i64 0)).setCell ⟨w.heap.size, 1, none⟩ (.int .i64 0)).setCell ⟨w.heap.size, 2, none⟩ (.int .i64 0)).setCell ⟨w.heap.size, 3, none⟩ (.int .u64 0)).setCell ⟨w.heap.size, 4, none⟩ (.int .u64 0)).setCell ⟨P, 2, none⟩ (.bool false))) := Lib.hid (((((((O3.out).set_ ⟨w.heap.size, 0, none⟩ (.inr (Nat.le_refl _)) _).set_ ⟨w.heap.size, 1, none⟩ (.inr (Nat.le_refl _)) _).set_ ⟨w.heap.size, 2, none⟩ (.inr (Nat.le_refl _)) _).set_ ⟨w.heap.size, 3, none⟩ (.inr (Nat.le_refl _)) _).set_ ⟨w.heap.size, 4, none⟩ (.inr (Nat.le_refl _)) _).set_ ⟨P, 2, none⟩ (.inl (.inl rfl)) _)
  generalize ((((((w3.setCell ⟨w.heap.size, 0, none⟩ (.int .i64 0)).setCell ⟨w.heap.size, 1, none⟩ (.int .i64 0)).setCell ⟨w.heap.size, 2, none⟩ (.int .i64 0)).setCell ⟨w.heap.size, 3, none⟩ (.int .u64 0)).setCell ⟨w.heap.size, 4, none⟩ (.int .u64 0)).setCell ⟨P, 2, none⟩ (.bool false)) = W4 at X4 Q4 O4 ⊢
  clear hxq hxqf hxx hxxf
  refine (end_c W4 P undef undef false false cd2 ou2 _ _ _ _ _ _ Q4.out).mono ?_
  rintro e w5 ⟨rfl, hq5, ho5⟩
  have Q5 := Lib.hid hq5
  have X5 := Lib.hid (X4.out.only ho5 (by omega))
  have O5 : Hid (Only (fun g => g = P ∨ bl s g) w w5) := Lib.hid (O4.out.next ho5 (fun k hk hg => .inl hg))
  have hxq := Q5.out.cell
  have hxqf := Q5.out.frozen
  have hxx := X5.out.cell
  have hxxf := X5.out.frozen
  clear hq5 ho5
  go_wp2
  go_region
  have XX : Hid (Blk ((((((w5.setCell ⟨w.heap.size, 0, none⟩ (.int .i64 0)).setCell ⟨w.heap.size, 1, none⟩ (.int .i64 0)).setCell ⟨w.heap.size, 2, none⟩ (.int .i64 0)).setCell ⟨w.heap.size, 3, none⟩ (.int .u64 0)).setCell ⟨w.heap.size, 4, none⟩ (.int .u64 0)).drew) w.heap.size 57 #[.int .i64 0, .int .i64 0, .int .i64 0, .int .u64 0, .int .u64 0]) := Lib.hid (by have h_ := ((((((X5.out).set_ 0 (.int .i64 0)).set_ 1 (.int .i64 0)).set_ 2 (.int .i64 0)).set_ 3 (.int .u64 0)).set_ 4 (.int .u64 0)).drew; simpa only [List.setIfInBounds_toArray, List.set_cons_zero, List.set_cons_succ] using h_)
  have QQ : Hid (Over (((((((w5.setCell ⟨w.heap.size, 0, none⟩ (.int .i64 0)).setCell ⟨w.heap.size, 1, none⟩ (.int .i64 0)).setCell ⟨w.heap.size, 2, none⟩ (.int .i64 0)).setCell ⟨w.heap.size, 3, none⟩ (.int .u64 0)).setCell ⟨w.heap.size, 4, none⟩ (.int .u64 0)).drew)) P cd2 ou2) := Lib.hid (((((((Q5.out).far (p := ⟨w.heap.size, 0, none⟩) (show ¬ P = w.heap.size by omega) (.int .i64 0)).far (p := ⟨w.heap.size, 1, none⟩) (show ¬ P = w.heap.size by omega) (.int .i64 0)).far (p := ⟨w.heap.size, 2, none⟩) (show ¬ P = w.heap.size by omega) (.int .i64 0)).far (p := ⟨w.heap.size, 3, none⟩) (show ¬ P = w.heap.size by omega) (.int .u64 0)).far (p := ⟨w.heap.size, 4, none⟩) (show ¬ P = w.heap.size by omega) (.int .u64 0)).drew)
  have OO : Hid (Only (fun g => g = P ∨ bl s g) w ((((((w5.setCell ⟨w.heap.size, 0, none⟩ (.int .i64 0)).setCell ⟨w.heap.size, 1, none⟩ (.int .i64 0)).setCell ⟨w.heap.size, 2, none⟩ (.int .i64 0)).setCell ⟨w.heap.size, 3, none⟩ (.int .u64 0)).setCell ⟨w.heap.size, 4, none⟩ (.int .u64 0)).drew)) := Lib.hid (((((((O5.out).set_ ⟨w.heap.size, 0, none⟩ (.inr (Nat.le_refl _)) _).set_ ⟨w.heap.size, 1, none⟩ (.inr (Nat.le_refl _)) _).set_ ⟨w.heap.size, 2, none⟩ (.inr (Nat.le_refl _)) _).set_ ⟨w.heap.size, 3, none⟩ (.inr (Nat.le_refl _)) _).set_ ⟨w.heap.size, 4, none⟩ (.inr (Nat.le_refl _)) _).drew)
  generalize ((((((w5.setCell ⟨w.heap.size, 0, none⟩ (.int .i64 0)).setCell ⟨w.heap.size, 1, none⟩ (.int .i64 0)).setCell ⟨w.heap.size, 2, none⟩ (.int .i64 0)).setCell ⟨w.heap.size, 3, none⟩ (.int .u64 0)).setCell ⟨w.heap.size, 4, none⟩ (.int .u64 0)).drew) = W6 at XX QQ OO ⊢
  have hx6 := XX.out.cell
  clear hxq hxqf hxx hxxf
  go_wp2
  refine bodyPost_ret (v := .tuple #[.agg #[.int .i64 0, .int .i64 0, .int .i64 0, .int .u64 0, .int .u64 0], .bool false]) (by simp [results, Try.results143, go_sem, hx6]) rfl ⟨rfl, QQ.out, OO.out⟩
end Go.Proofs.Ytffppdcpiieapaa.Procc
