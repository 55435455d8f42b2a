/- A thread is pinned all the time: whoever retires segments, and however often it is collected: the epoch goes by at most once, and nothing is given back (P5.3). No condition. · EpochWaits: how far the lists of calls are; picks that are laid behind others. · A thread is pinned all the time: the epoch goes by at most once, and nothing is given back: the law's walk. · EpochWaits, where the config may not be, or has one thread, or fewer segments than threads, or the picks are too many: it holds at once. -/
import Derived.Test.YtffppdcpiieapaaQ17
import Derived.Test.YtffppdcpiieapaaQ18
namespace Go.Proofs.Ytffppdcpiieapaa.Zreg
open Go.RowKit Go.Proofs.Ytffppdcpiieapaa.Memc
set_option linter.unusedVariables false
section
variable {P : Program} {md : Region.Mode} {ops : Array Oper} {Q : Exit → Act → World → Prop} {S : World → Prop} {zs : List Nat}
/-- one alone may come up now, and it is wanted -/
theorem oneG (i : Nat) {o : Oper} {n : Nat} {listed : Array Bool} {a : Act} {w : World} (hr : Region.ready md ops listed = [i]) (hi : ops[i]? = some o) (hw : Region.wanted o (yielded ops a.tmps) = true)
    (h : ∀ K : Act → World → Prop, Hid (∀ b v, (past zs (listed.setIfInBounds i true) = true ∨ S v) → ((past zs (listed.setIfInBounds i true) = true ∨ S v) → After P md ops Q S zs n (listed.setIfInBounds i true) b v) → K b v) → Oper.wp P o a w K Q) : After P md ops Q S zs (n + 1) listed a w := by
  refine ⟨(fun h0 => (by rw [hr] at h0; cases h0)), fun j hj => ?_⟩
  rw [hr] at hj
  obtain rfl : j = i := by simpa using hj
  unfold wpOp
  rw [hi]
  simp only [hw, if_true]
  exact .inl (h _ (Lib.hid fun b v hS hh => ⟨hS, hh hS⟩))
end
end Go.Proofs.Ytffppdcpiieapaa.Zreg
namespace Go.Proofs.Ytffppdcpiieapaa.Memc
open Go.RowKit
set_option linter.unusedVariables false
set_option maxRecDepth 100000
theorem run_append_nought {P : Program} (w : World) (base : Nat) (t ty e : TypeId) (i : TypeInfo) (size : Nat) (ht : P.underlying t = some (.slice e)) (hi : P.info? e = some i)
    (v : Value) (n : Nat) (xs : List Value) (hown : w.ownsRow base e size v n xs) (c : Nat) : (Builtin.append_ #[t, t] ty #[v, .slice none 0 c]).run P w = .ok v w := by
  rcases hown.2 with ⟨rfl, rfl⟩ | ⟨g, cap, cur, rfl, _, _, hnc, _⟩
  · simp [Builtin.append_, run_underlying ht, sizeOf, typeInfo, hi, Builtin.lenOf, Builtin.firstCells]
  · simp [Builtin.append_, run_underlying ht, sizeOf, typeInfo, hi, Builtin.lenOf, Builtin.firstCells, hnc, storeCells]
/-- what is read of a slice is laid behind -/
theorem wp_appS {w : World} {o : Oper} {a : Act} {K : Act → World → Prop} {Q : Exit → Act → World → Prop} (x y : Operand) (t : TypeId) (ho : o.op = .call { callee := .builtin .append, args := #[x, y], argTypes := #[t, t] })
    (base : Nat) (E : TypeId) (i : TypeInfo) (z : Value) (size bytes : Nat) (ht : Try.prog.underlying t = some (.slice E)) (hi : Try.prog.info? E = some i) (hz : i.zero = some z) (hsize : i.size = size) (hby : i.bytes = bytes) (hzs : z.cells.size = size) (hsz : 0 < size)
    (s : Sl) (n : Nat) (xs : List Value) (hx : a.eval x = .slice s.A s.n s.c) (hown : Row w base E size s n xs) (A : Option Addr) (m cy : Nat) (news : List Value) (hy : a.eval y = .slice A m cy) (hl : news.length = m * size)
    (hnews : 0 < m → ∃ b off, A = some ⟨b, off, none⟩ ∧ ∀ j u, news[j]? = some u → w.cell? ⟨b, off + j, none⟩ = some u) (h1 : ∀ u ∈ news, u.oneCell' = true) (h63 : n + m ≤ 1000000) (hb1 : bytes ≤ 1000) (hb : base ≤ w.heap.size)
    (hk : ∀ s' w', Row w' base E size s' (n + m) (xs ++ news) → Only (bl s) w w' → K (a.put o.dst (.slice s'.A s'.n s'.c)) w') : o.wp Try.prog a w K Q := by
  have hbb : (n + m) * bytes ≤ 140737488355328 := Nat.le_trans (Nat.mul_le_mul (h63) hb1) (by omega)
  have hm63 : n + m ≤ maxLen := by unfold maxLen; omega
  obtain ⟨v', w', hr, h2, h3⟩ : ∃ v' w', (Builtin.append_ #[t, t] o.type #[.slice s.A s.n s.c, .slice A m cy]).run Try.prog w = .ok v' w' ∧ w'.ownsRow base E size v' (n + m) (xs ++ news) ∧ w.grownBy w' (Value.slice s.A s.n s.c).ownBlock := by
    match A, hy, hnews with
    | none, hy, hnews =>
      have hm : m = 0 := by
        rcases Nat.eq_zero_or_pos m with h | h
        · exact h
        · obtain ⟨b, off, hA, _⟩ := hnews h
          cases hA
      subst hm
      have hn0 : news = [] := List.eq_nil_of_length_eq_zero (by omega)
      subst hn0
      refine ⟨_, _, run_append_nought (P := Try.prog) w base t o.type E i size ht hi _ n xs hown cy, ?_, World.grownBy.refl w _⟩
      rw [List.append_nil]
      exact hown
    | some ad, hy, hnews =>
      have hnw : ∀ j u, news[j]? = some u → w.cell? (ad.add j) = some u := fun j u hj => by
        have hj2 : j < news.length := (List.getElem?_eq_some_iff.1 hj).1
        obtain ⟨b, off, hA, hc⟩ := hnews (by
          rcases Nat.eq_zero_or_pos m with h | h
          · rw [h, Nat.zero_mul] at hl; omega
          · exact h)
        injection hA with hA
        subst hA
        rw [Addr.add_lit]
        exact hc j u hj
      obtain ⟨v', w', hr, h2, h3, h4⟩ := run_append_own (P := Try.prog) w base t o.type E i z size bytes ht hi hz hsize hby hzs hsz _ n xs hown ad m cy news hl hnw h1 hm63 hbb hb
      exact ⟨v', w', hr, h2, h3⟩
  unfold Oper.wp execOp
  simp only [ho, resolve, invoke, builtin, Sem.run_bind, Sem.run_pure, Result.andThen_ok, List.map_toArray, List.map_cons, List.map_nil, hx, hy, hr]
  obtain ⟨s', rfl, hs'⟩ := row_sl h2
  exact hk s' w' hs' (only_grown h3)
end Go.Proofs.Ytffppdcpiieapaa.Memc
namespace Go.Proofs.Ytffppdcpiieapaa.Machc
open Go.RowKit Go.Proofs.Ytffppdcpiieapaa.Memc Go.Proofs.Ytffppdcpiieapaa.Newc Go.Proofs.Ytffppdcpiieapaa.Drivec Go.Proofs.Ytffppdcpiieapaa.Procc Go.Proofs.Ytffppdcpiieapaa.Arenac
set_option linter.unusedVariables false
set_option maxRecDepth 100000

theorem wpList_appS {w : World} {ops : Array Oper} {rest : List Oper} {o : Oper} {a : Act} {Q : Exit → Act → World → Prop} (hgd : o.guard = none) (x y : Operand) (t : TypeId) (ho : o.op = .call { callee := .builtin .append, args := #[x, y], argTypes := #[t, t] })
    (base : Nat) (E : TypeId) (i : TypeInfo) (z : Value) (size bytes : Nat) (ht : Try.prog.underlying t = some (.slice E)) (hi : Try.prog.info? E = some i) (hz : i.zero = some z) (hsize : i.size = size) (hby : i.bytes = bytes) (hzs : z.cells.size = size) (hsz : 0 < size)
    (s : Sl) (n : Nat) (xs : List Value) (hx : a.eval x = .slice s.A s.n s.c) (hown : Row w base E size s n xs) (A : Option Addr) (m cy : Nat) (news : List Value) (hy : a.eval y = .slice A m cy) (hl : news.length = m * size)
    (hnews : 0 < m → ∃ b off, A = some ⟨b, off, none⟩ ∧ ∀ j u, news[j]? = some u → w.cell? ⟨b, off + j, none⟩ = some u) (h1 : ∀ u ∈ news, u.oneCell' = true) (h63 : n + m ≤ 1000000) (hb1 : bytes ≤ 1000) (hb : base ≤ w.heap.size)
    (hk : ∀ s' w', Row w' base E size s' (n + m) (xs ++ news) → Only (bl s) w w' → wpList Try.prog ops Q rest (a.put o.dst (.slice s'.A s'.n s'.c)) w') : wpList Try.prog ops Q (o :: rest) a w :=
  wpList_plain hgd fun _ hK => wp_appS x y t ho base E i z size bytes ht hi hz hsize hby hzs hsz s n xs hx hown A m cy news hy hl hnews h1 h63 hb1 hb fun s' w' h2 h3 => hK _ _ (hk s' w' h2 h3)
theorem list99_c (w : World) (r : R) (lk : List Int) (g c : Nat) (hK : r.K = ⟨some ⟨g, 0, none⟩, lk.length, c⟩) (hg : g < w.heap.size) (hgc : ∀ (j : Nat) (x : Int), lk[j]? = some x → w.cell? ⟨g, j, none⟩ = some (.int .u64 x)) (hu : u64s lk) (hlm : lk.length ≤ maxLen) (first : Int) (f0 : 0 ≤ first) (f1 : first ≤ 4294967295) :
    Calls Try.prog 19 #[.agg #[.int .u64 r.e, .int .u64 r.f, .slice r.L.A r.L.n r.L.c, .slice r.P.A r.P.n r.P.c, .int .u64 r.h, .int .u64 r.t, .slice r.K.A lk.length r.K.c, .slice r.X.A r.X.n r.X.c, .slice r.S.A r.S.n r.S.c], .int .u32 first, .int .i64 99] w fun e w' => ∃ q : Sl, e = .returned (.slice q.A q.n q.c) ∧ Row w' (w.heap.size + 1) 3 1 q (listN 99 lk first).length (intsV (listN 99 lk first)) ∧ Below w.heap.size w w' :=
  list_c w r lk g c hK hg hgc hu hlm first f0 f1 99 (by decide)
theorem picked_3 (w : World) : Calls Try.prog 22 #[.int .i64 0, .int .i64 3] w fun e w' => ∃ q : Sl, e = .returned (.slice q.A q.n q.c) ∧ Row w' w.heap.size 65 2 q 3 (flatP (List.replicate 3 (0, 0))) ∧ Below w.heap.size w w' :=
  picked_c w 0 3 (by omega) (by omega) (by omega)
theorem rdp_cells {w : World} {b : Nat} : ∀ (l : List (Int × Int)) (off : Nat), (∀ (i : Nat) (x : Int × Int), l[i]? = some x → w.cell? ⟨b, off + i * 2, none⟩ = some (.int .i64 x.1) ∧ w.cell? ⟨b, off + i * 2 + 1, none⟩ = some (.int .u32 x.2)) →
    ∀ (j : Nat) (u : Value), (flatP l)[j]? = some u → w.cell? ⟨b, off + j, none⟩ = some u
  | [], off, _, j, u, h => by cases h
  | x :: l, off, hc, j, u, h => by
    have h' : (Drivec.pcells x ++ flatP l)[j]? = some u := h
    match j, h' with
    | 0, h' => injection h' with h'; subst h'; exact (hc 0 x rfl).1
    | 1, h' => injection h' with h'; subst h'; exact (hc 0 x rfl).2
    | j + 2, h' =>
      have h2 : (flatP l)[j]? = some u := h'
      have := rdp_cells l (off + 2) (fun i y hy => by
        have := hc (i + 1) y hy
        rw [show off + (i + 1) * 2 = off + 2 + i * 2 by omega] at this
        exact this) j u h2
      rw [show off + (j + 2) = off + 2 + j by omega]
      exact this
theorem rdp_news {w : World} {B : Nat} {A : Option Addr} {n c : Nat} {l : List (Int × Int)} (h : RdP w B ⟨A, n, c⟩ l) : 0 < n → ∃ b off, A = some ⟨b, off, none⟩ ∧ ∀ j u, (flatP l)[j]? = some u → w.cell? ⟨b, off + j, none⟩ = some u := fun hn => by
  obtain ⟨b, off, hA, _, hc⟩ := h.2.2.2.2 hn
  exact ⟨b, off, hA, rdp_cells l off hc⟩
/-- a thread's calls -/
def opsB (i : Nat) : List (Int × Int) := [(6, 0), (8, (i : Int)), (7, 0)]
def opsW (n i : Nat) : List (Int × Int) := if i = 0 then [(6, 0)] else opsB i ++ List.replicate n (3, 0)
theorem opsW_zero (n : Nat) : opsW n 0 = [(6, 0)] := if_pos rfl
theorem opsW_pos {n i : Nat} (h : 0 < i) : opsW n i = opsB i ++ List.replicate n (3, 0) := if_neg (by omega)
theorem opsW_len {n i : Nat} (hn : n ≤ 40) : (opsW n i).length ≤ 43 := by
  unfold opsW opsB
  split
  · simp
  · simp; omega
theorem opsW_mem {n i : Nat} {o : Int × Int} (h : o ∈ opsW n i) : (o.1 = 6 ∨ o.1 = 8 ∨ o.1 = 7 ∨ o.1 = 3) ∧ 0 ≤ o.2 ∧ o.2 ≤ i := by
  unfold opsW opsB at h
  split at h
  · rw [List.mem_singleton.1 h]
    exact ⟨.inl rfl, Int.le_refl 0, Int.natCast_nonneg _⟩
  · rcases List.mem_append.1 h with h | h
    · simp only [List.mem_cons, List.not_mem_nil, or_false] at h
      rcases h with rfl | rfl | rfl
      · exact ⟨.inl rfl, Int.le_refl 0, Int.natCast_nonneg _⟩
      · exact ⟨.inr (.inl rfl), Int.natCast_nonneg _, Int.le_refl _⟩
      · exact ⟨.inr (.inr (.inl rfl)), Int.le_refl 0, Int.natCast_nonneg _⟩
    · rw [List.eq_of_mem_replicate h]
      exact ⟨.inr (.inr (.inr rfl)), Int.le_refl 0, Int.natCast_nonneg _⟩
theorem waitLs (n T : Nat) (hT : 0 < T) : WaitLs T ((List.range T).map (opsW n)) := by
  refine ⟨by simp, ?_, fun i l o hi ho => ?_⟩
  · rw [List.getElem?_map, List.getElem?_range hT]; rfl
  · obtain ⟨a, _, rfl⟩ := List.mem_map.1 (List.mem_of_getElem? hi)
    exact (opsW_mem ho).1
/-- how far the lists are -/
structure WaI (V : World) (t n : Nat) (q : Sl) (ss : List Sl) (K T M : Nat) (w : World) : Prop where
  len : ss.length = t
  l : Row V (w.heap.size + 1) 61 1 q t (ss.map fun s => .slice s.A s.n s.c)
  o : ∀ i s, ss[i]? = some s → ∃ b, Row V b 63 2 s (opsW n i).length (flatP (opsW n i))
  c : Blk V w.heap.size 23 #[.int .i64 2, .int .i64 K, .int .i64 T, .int .i64 M]
  b : Below w.heap.size w V
section
variable {V V' w : World} {t n K T M : Nat} {q q2 : Sl} {ss : List Sl}
theorem WaI.below (h : WaI V t n q ss K T M w) (o : Below V.heap.size V V') : WaI V' t n q ss K T M w :=
  ⟨h.len, h.l.below o (Nat.le_refl _), fun i g hg => by obtain ⟨b, hb⟩ := h.o i g hg; exact ⟨b, hb.below o (Nat.le_refl _)⟩, h.c.below o h.c.lt, h.b.trans (o.mono h.b.size)⟩
theorem WaI.alloc (h : WaI V t n q ss K T M w) (o : Obj) : WaI (V.alloc o) t n q ss K T M w := h.below ((Below.refl _ _).alloc (Nat.le_refl _) _)
theorem WaI.addl {b : Nat} {cur : Sl} {ob : Obj} (h : WaI V t n q ss K T M w) (hc : Row V b 63 2 cur (opsW n t).length (flatP (opsW n t))) (hr : Row V' (w.heap.size + 1) 61 1 q2 (t + 1) ((ss.map fun s => .slice s.A s.n s.c) ++ [.slice cur.A cur.n cur.c])) (o : Only (bl q) (V.alloc ob) V') : WaI V' (t + 1) n q2 (ss ++ [cur]) K T M w := by
  have h1 := h.alloc ob
  refine ⟨by rw [List.length_append, h.len]; rfl, by rw [List.map_append]; exact hr, fun i g hg => ?_, h1.c.only o (fun hb => by have := (h1.l.lt hb).1; omega), h1.b.trans (o.below h1.b.size (fun g hg => by have := (h1.l.lt hg).1; omega))⟩
  by_cases hi : i < t
  · rw [List.getElem?_append_left (by rw [h.len]; exact hi)] at hg
    obtain ⟨b', hb'⟩ := h1.o i g hg
    exact ⟨b', hb'.only o (row_apart hb' h1.l (by decide))⟩
  · have hil : i < (ss ++ [cur]).length := (List.getElem?_eq_some_iff.1 hg).1
    rw [List.length_append, h.len] at hil
    have hit : i = t := by simp only [List.length_cons, List.length_nil] at hil; omega
    subst hit
    rw [List.getElem?_append_right (by rw [h.len]; exact Nat.le_refl _), h.len, Nat.sub_self] at hg
    injection hg with hg
    subst hg
    have hn := Row.alloc hc ob
    exact ⟨b, hn.only o (row_apart hn h1.l (by decide))⟩
theorem WaI.lists (h : WaI V T n q ss K T M w) (hT : 0 < T) : ∃ gl : Nat, q.A = some ⟨gl, 0, none⟩ ∧ q.n = T ∧ RdLO V V.heap.size ⟨some ⟨gl, 0, none⟩, T, q.c⟩ ((List.range T).map (opsW n)) := by
  obtain ⟨gl, hA, _, hlt, hc, _⟩ := h.l.at_ hT
  obtain ⟨h1, h2, h3, h4⟩ := h.l.n_
  refine ⟨gl, hA, h1, by simp, by show T ≤ q.c; omega, h3, fun _ => ⟨gl, 0, rfl, hlt, fun i x hx => ?_⟩⟩
  have hi : i < T := by have := (List.getElem?_eq_some_iff.1 hx).1; simpa using this
  rw [List.getElem?_map, List.getElem?_range hi] at hx
  injection hx with hx
  subst hx
  obtain ⟨s, hs⟩ : ∃ s, ss[i]? = some s := ⟨_, List.getElem?_eq_getElem (by rw [h.len]; exact hi)⟩
  obtain ⟨b, hb⟩ := h.o i s hs
  refine ⟨s, ?_, row_rdo hb⟩
  rw [Nat.zero_add]
  rw [hc i (by omega), List.getElem?_map, hs]
  rfl
end
/-- the links are as many as at first, whatever is done -/
theorem runM_area {Z : Mac} {ls : List (List (Int × Int))} (b : Int) {n : Nat} (ps : List (Int × Int)) (s : RS) (h : (s.m.area b).length = n) : ((runM Z ls s ps).m.area b).length = n :=
  runM_ind (P := fun s => (s.m.area b).length = n) (fun s t d hs => turnM_ind (P := fun s => (s.m.area b).length = n) hs
    (fun i l o d _ _ _ => (len_acc _ _ _).trans hs) (fun i _ _ => (len_acc _ _ _).trans hs) t d) ps s h
end Go.Proofs.Ytffppdcpiieapaa.Machc

namespace Go.Proofs.Ytffppdcpiieapaa.Machc
open Go.RowKit Go.Proofs.Ytffppdcpiieapaa.Memc Go.Proofs.Ytffppdcpiieapaa.Newc Go.Proofs.Ytffppdcpiieapaa.Drivec Go.Proofs.Ytffppdcpiieapaa.Procc Go.Proofs.Ytffppdcpiieapaa.Arenac
set_option linter.unusedVariables false
set_option maxRecDepth 100000

set_option maxHeartbeats 4000000 in
theorem waits_c (w : World) (k : Int) (K T M many : Nat) (pA : Option Addr) (pn pc : Nat) (ps : List (Int × Int)) (k1 : 1 ≤ k) (k2 : k ≤ 3) (a1 : 1 ≤ K) (a2 : K ≤ 64) (t1 : 2 ≤ T) (t2 : T ≤ 8) (m1 : 2 ≤ M) (m2 : M ≤ 64) (hTM : T ≤ M) (hmany : many ≤ 255) (hpn : pn ≤ 1000) (hp : RdP w w.heap.size ⟨pA, pn, pc⟩ ps) :
    Calls Try.prog 7 #[.agg #[.int .i64 k, .int .i64 K, .int .i64 T, .int .i64 M], .int .u8 many, .slice pA pn pc] w fun e w' => e = .returned (.bool true) ∧ Below w.heap.size w w' := by
  have HP := Lib.hid hp
  have hpl : ps.length = pn := hp.1.symm
  clear hp
  have C0 : Hid (Blk (w.alloc (.cells #[.int .i64 k, .int .i64 K, .int .i64 T, .int .i64 M] 23)) w.heap.size 23 #[.int .i64 k, .int .i64 K, .int .i64 T, .int .i64 M]) := Lib.hid (Blk.new _ _ _)
  have W0 : Hid (Below w.heap.size w (w.alloc (.cells #[.int .i64 k, .int .i64 K, .int .i64 T, .int .i64 M] 23))) := Lib.hid ((Below.refl _ _).alloc (Nat.le_refl _) _)
  have hmt : ¬ (M : Int) < (T : Int) := by omega
  have hmt2 : decide (M < T) = false := decide_eq_false (by omega)
  have ht2 : ¬ (T : Int) < 2 := by omega
  have ht2b : decide ((T : Int) < 2) = false := decide_eq_false (by omega)
  have hp2 : ¬ (1000 : Int) < (pn : Int) := by omega
  have hp2b : decide ((1000 : Int) < (pn : Int)) = false := decide_eq_false (by omega)
  go_enter Try.func7, Try.ntmps7
  go_upto_region 5 with (first
    | (go_at_call 21; (with_reducible refine (awake5_c _).mono ?_); rintro e w1 ⟨rfl, hb⟩; go_must (have C1 := Lib.hid (C0.out.below hb C0.out.lt); have W1 := Lib.hid (W0.out.trans (hb.mono W0.out.size))); have hc1 := C1.out.cell; have hf1 := C1.out.frozen; clear hb)
    | (go_at_call 20; (with_reducible refine (refmay_yes _ k K T M k1 k2 (by omega) (by omega) (by omega) (by omega) (by omega) (by omega)).mono ?_); rintro e w2 ⟨rfl, hb⟩; go_must (have C2 := Lib.hid (C1.out.below hb C1.out.lt); have W2 := Lib.hid (W1.out.trans (hb.mono W1.out.size))); have hc2 := C2.out.cell; have hf2 := C2.out.frozen; clear hb hc1 hf1))
  go_upto_region 8 with fail
  have C3 : Hid (Blk (w2.setCell ⟨w.heap.size, 0, none⟩ (.int .i64 2)) w.heap.size 23 #[.int .i64 2, .int .i64 K, .int .i64 T, .int .i64 M]) := Lib.hid (by
    have h_ := C2.out.set_ 0 (.int .i64 2)
    simpa only [List.setIfInBounds_toArray, List.set_cons_zero, List.set_cons_succ] using h_)
  have W3 : Hid (Below w.heap.size w (w2.setCell ⟨w.heap.size, 0, none⟩ (.int .i64 2))) := Lib.hid (Below.setCell W2.out (p := ⟨w.heap.size, 0, none⟩) (Nat.le_refl _) (.int .i64 2))
  clear hc2 hf2 C0 W0 C1 W1 C2 W2
  generalize w2.setCell ⟨w.heap.size, 0, none⟩ (.int .i64 2) = V3 at C3 W3 ⊢
  clear hmt hmt2 ht2 ht2b hp2 hp2b
  obtain ⟨n4, hn4⟩ : ∃ n4 : Nat, n4 = many % 40 := ⟨_, rfl⟩
  have hn40 : n4 ≤ 39 := by omega
  go_loopw [7, 8] (fun l i wr => ∃ (t : Nat) (q : Sl) (ss : List Sl), l = .slice q.A q.n q.c ∧ i = .int .i64 t ∧ t ≤ T ∧ WaI wr t n4 q ss K T M w) (fun _ i _ => T - (intOf i).toNat)
  case atStart => exact ⟨0, nilS, [], rfl, rfl, Nat.zero_le _, rfl, row_nil _ _ _ _, (fun i g h => by cases h), C3.out, W3.out⟩
  case round =>
  clear C3 W3
  obtain ⟨t, q, ss, rfl, rfl, ht, hi⟩ := hrel
  have I0 := Lib.hid hi
  have hc0 := hi.c.cell
  clear hi
  generalize wr = V0 at I0 hc0 ⊢
  have i0 : (0 : Int) ≤ t := Int.natCast_nonneg _
  by_cases hlt : t < T
  · have i1 : (t : Int) < T := by omega
    have cu : (t : Int) % 4294967296 = t := by omega
    obtain ⟨ji, hji, hjz0, hjz1, hjz2⟩ := info_parts ops_cell
    obtain ⟨oi, hoi, hoz0, hoz1, hoz2⟩ := info_parts op_cell
    by_cases ht0 : 0 < t
    · have i2 : (0 : Int) < t := by omega
      have L1 : Hid (Row ((V0.alloc (.cells #[.int .i64 6, .int .u32 0] 63)).alloc (.cells #[.int .i64 8, .int .u32 t, .int .i64 7, .int .u32 0] 63)) V0.heap.size 63 2 ⟨some ⟨V0.heap.size, 0, none⟩, 1, 1⟩ 1 [.int .i64 6, .int .u32 0]) :=
        Lib.hid (Row.alloc (s := ⟨some ⟨V0.heap.size, 0, none⟩, 1, 1⟩) (World.ownsRow_lit (e := 63) (size := 2) V0 #[.int .i64 6, .int .u32 0] 1 (Nat.le_refl _) (by unfold maxLen; decide) rfl) _)
      have B1 : Hid (Below V0.heap.size V0 ((V0.alloc (.cells #[.int .i64 6, .int .u32 0] 63)).alloc (.cells #[.int .i64 8, .int .u32 t, .int .i64 7, .int .u32 0] 63))) := Lib.hid (((Below.refl _ _).alloc (Nat.le_refl _) _).alloc (by simp) _)
      go_upto_region 14 with (at_builtin; refine wpList_appN rfl _ _ 61 rfl V0.heap.size 63 oi _ 2 16 Try.underlying61 hoi hoz0 hoz1 hoz2 rfl (by decide) ⟨some ⟨V0.heap.size, 0, none⟩, 1, 1⟩ 1 _ rfl L1.out (V0.heap.size + 1) 2 2 (by decide) [.int .i64 8, .int .u32 t, .int .i64 7, .int .u32 0] rfl rfl (fun j u hj => (Blk.cell (Arenac.blk_at2 _ _ _ _ (by simp)) j).trans (by simpa using hj)) (by simp [Value.oneCell']) (by omega) (by decide) (by simp; omega) ?_; intro s7 w7 hr7 ho7 hw7; go_must (have R7 : Hid (Row w7 V0.heap.size 63 2 s7 3 (flatP (opsB t))) := Lib.hid hr7; have B7 := Lib.hid (B1.out.trans (ho7.below B1.out.size (fun g hg => (L1.out.lt hg).1)))); clear hr7 ho7 hw7)
      clear L1 B1
      have htm : (many : Int).tmod 40 = n4 := by rw [Int.tmod_eq_emod_of_nonneg (Int.natCast_nonneg _)]; omega
      go_loopw [9, 10] (fun o i wr => ∃ (j : Nat) (s : Sl), o = .slice s.A s.n s.c ∧ i = .int .i64 j ∧ j ≤ n4 ∧ Row wr V0.heap.size 63 2 s (3 + j) (flatP (opsB t ++ List.replicate j (3, 0))) ∧ Below V0.heap.size V0 wr) (fun _ i _ => n4 - (intOf i).toNat)
      case atStart => exact ⟨0, s7, rfl, rfl, Nat.zero_le _, by rw [List.replicate_zero, List.append_nil]; exact R7.out, B7.out⟩
      case round =>
      clear R7 B7
      obtain ⟨j, s, rfl, rfl, hj, hr, hb⟩ := hrel
      have R0 := Lib.hid hr
      have B0 := Lib.hid hb
      clear hr hb
      generalize wr = V2 at R0 B0 ⊢
      have j0 : (0 : Int) ≤ j := Int.natCast_nonneg _
      by_cases hjn : j < n4
      · have j1 : (j : Int) < n4 := by omega
        go_upto_region 15 with (at_builtin; refine wpList_app2 rfl _ _ 61 rfl V0.heap.size 63 oi _ 2 16 Try.underlying61 hoi hoz0 hoz1 hoz2 rfl (by decide) s (3 + j) _ rfl (Row.alloc R0.out (.cells #[.int .i64 3, .int .u32 0] 63)) V2.heap.size [.int .i64 3, .int .u32 0] rfl rfl (fun j u hj => (Blk.cell (Arenac.blk_at2 _ _ _ _ rfl) j).trans (by simpa using hj)) (by simp [Value.oneCell']) (by omega) (by decide) (Nat.le_trans B0.out.size (by simp)) ?_; intro s2 w7 hr7 ho7 hw7; go_must (have R8 : Hid (Row w7 V0.heap.size 63 2 s2 (3 + (j + 1)) (flatP (opsB t ++ List.replicate (j + 1) (3, 0)))) := Lib.hid (by rw [List.replicate_succ', ← List.append_assoc, flatP_app]; exact hr7); have B8 := Lib.hid ((B0.out.alloc B0.out.size (.cells #[.int .i64 3, .int .u32 0] 63)).trans (ho7.below (Nat.le_trans B0.out.size (by simp)) (fun g hg => (R0.out.lt hg).1)))); clear hr7 ho7 hw7)
        go_wp2
        go_roundw
        case rel => exact ⟨j + 1, s2, rfl, by go_num, hjn, R8.out, B8.out⟩
        case measure => simp [intOf]; omega
      · obtain rfl : j = n4 := by omega
        have I1 := Lib.hid (I0.out.below B0.out)
        have R1 : Hid (Row V2 V0.heap.size 63 2 s (opsW j t).length (flatP (opsW j t))) := Lib.hid (by
          have e : (opsW j t).length = 3 + j := by rw [opsW_pos ht0, List.length_append, List.length_replicate]; rfl
          rw [e, opsW_pos ht0]; exact R0.out)
        clear hc0
        go_upto_region 9 with (at_builtin; refine wpList_app2 rfl _ _ 44 rfl (w.heap.size + 1) 61 ji _ 1 24 Try.underlying44 hji hjz0 hjz1 hjz2 rfl (by decide) q t _ rfl (I1.out.alloc (.cells #[.slice s.A s.n s.c] 61)).l V2.heap.size [.slice s.A s.n s.c] rfl rfl (fun j u hj => (Blk.cell (Arenac.blk_at2 _ _ _ _ rfl) j).trans (by simpa using hj)) (by simp [Value.oneCell']) (by omega) (by decide) (Nat.le_trans I1.out.c.lt (by simp)) ?_; intro q2 w7 hr7 ho7 hw7; go_must (have I2 := Lib.hid (I1.out.addl R1.out hr7 ho7)); clear hr7 ho7 hw7)
        go_wp2
        go_roundw
        case rel => exact ⟨t + 1, q2, ss ++ [s], rfl, by go_num, by omega, I2.out⟩
        case measure => simp [intOf]; omega
    · have i2 : ¬ (0 : Int) < t := by omega
      have htz : t = 0 := by omega
      have R1 : Hid (Row (V0.alloc (.cells #[.int .i64 6, .int .u32 0] 63)) V0.heap.size 63 2 ⟨some ⟨V0.heap.size, 0, none⟩, 1, 1⟩ (opsW n4 t).length (flatP (opsW n4 t))) := Lib.hid (by
        rw [htz, opsW_zero]
        exact World.ownsRow_lit (e := 63) (size := 2) V0 #[.int .i64 6, .int .u32 0] 1 (Nat.le_refl _) (by unfold maxLen; decide) rfl)
      have I1 := Lib.hid (I0.out.alloc (.cells #[.int .i64 6, .int .u32 0] 63))
      go_upto_region 9 with (at_builtin; refine wpList_app2 rfl _ _ 44 rfl (w.heap.size + 1) 61 ji _ 1 24 Try.underlying44 hji hjz0 hjz1 hjz2 rfl (by decide) q t _ rfl (I1.out.alloc (.cells #[.slice (some ⟨V0.heap.size, 0, none⟩) 1 1] 61)).l (V0.heap.size + 1) [.slice (some ⟨V0.heap.size, 0, none⟩) 1 1] rfl rfl (fun j u hj => (Blk.cell (Arenac.blk_at2 _ _ _ _ (by simp)) j).trans (by simpa using hj)) (by simp [Value.oneCell']) (by omega) (by decide) (Nat.le_trans I1.out.c.lt (by simp)) ?_; intro q2 w7 hr7 ho7 hw7; go_must (have I2 := Lib.hid (I1.out.addl R1.out hr7 ho7)); clear hr7 ho7 hw7 hc0)
      go_wp2
      go_roundw
      case rel => exact ⟨t + 1, q2, ss ++ [⟨some ⟨V0.heap.size, 0, none⟩, 1, 1⟩], rfl, by go_num, by omega, I2.out⟩
      case measure => simp [intOf]; omega
  · obtain rfl : t = T := by omega
    obtain ⟨gl, hqA, hqn, hL⟩ := I0.out.lists (by omega)
    obtain ⟨qA, qn, qc⟩ := q
    simp only at hqA hqn hL
    subst hqA hqn
    obtain ⟨pi, hpi, hpz0, hpz1, hpz2⟩ := info_parts pick_cell
    have HL := Lib.hid hL
    clear hL
    go_upto_region 19 with (first
      | (go_at_call 22; (with_reducible refine (picked_3 _).mono ?_); rintro e w8 ⟨q8, rfl, hr8, hb⟩; go_must (have R8 := Lib.hid hr8; have B8 := Lib.hid hb; have P8 := Lib.hid (RdP.below HP.out (I0.out.b.trans (hb.mono I0.out.b.size)))); clear hb hr8)
      | (at_builtin; refine wpList_appS rfl _ _ 25 rfl V0.heap.size 65 pi _ 2 16 Try.underlying25 hpi hpz0 hpz1 hpz2 rfl (by decide) q8 3 _ rfl R8.out pA pn pc (flatP ps) rfl (by rw [flatP_len, hpl]) (rdp_news P8.out) (flatP_one _) (by omega) (by decide) B8.out.size ?_; intro q9 w9 hr9 ho9; go_must (have R9 : Hid (Row w9 V0.heap.size 65 2 q9 (List.replicate 3 ((0 : Int), (0 : Int)) ++ ps).length (flatP (List.replicate 3 (0, 0) ++ ps))) := Lib.hid (by rw [flatP_app, List.length_append, List.length_replicate, hpl]; exact hr9); have B9 := Lib.hid (B8.out.trans (ho9.below B8.out.size (fun g hg => (R8.out.lt hg).1)))); clear hr9 ho9))
    clear hpi hpz0 hpz1 hpz2 R8 B8 P8
    have I2 := Lib.hid (I0.out.below B9.out)
    have HL2 := Lib.hid (Arenac.RdLO.up (HL.out.below B9.out) B9.out.size)
    clear I0 HL hc0
    have hcc := I2.out.c.cell
    have hle : ∀ x ∈ (List.range qn).map (opsW n4), x.length ≤ 1000 := fun x hx => by
      obtain ⟨i, _, rfl⟩ := List.mem_map.1 hx
      have := opsW_len (i := i) (show n4 ≤ 40 by omega)
      omega
    have hfg : ∀ l ∈ (List.range qn).map (opsW n4), l.any fgnE = false := fun x hx => by
      obtain ⟨i, _, rfl⟩ := List.mem_map.1 hx
      refine List.any_eq_false.2 fun o ho => ?_
      have h := (opsW_mem ho).1
      unfold fgnE
      rcases h with h | h | h | h <;> simp [h]
    have hvl : ∀ l ∈ (List.range qn).map (opsW n4), ∀ o ∈ l, 0 ≤ o.2 ∧ o.2 ≤ 4294967295 := fun x hx o ho => by
      obtain ⟨i, hi, rfl⟩ := List.mem_map.1 hx
      have h1 := List.mem_range.1 hi
      have h2 := (opsW_mem ho).2
      omega
    have hpb : ∀ x ∈ List.replicate 3 ((0 : Int), (0 : Int)) ++ ps, -9223372036854775808 ≤ x.1 ∧ x.1 ≤ 9223372036854775807 := fun x hx => by
      rcases List.mem_append.1 hx with h | h
      · rw [List.eq_of_mem_replicate h]; simp
      · exact HP.out.2.2.2.1 x h
    have hpn4 : (List.replicate 3 ((0 : Int), (0 : Int)) ++ ps).length ≤ 20000 := by rw [List.length_append, List.length_replicate]; omega
    go_upto_region 20 with (go_at_call 23; (with_reducible refine (erun_c _ 2 K qn M gl 0 qc q9.A _ q9.c _ _ (by omega) (by omega) a1 a2 (by omega) t2 m1 m2 HL2.out hle (row_rdp R9.out hpb) hpn4 hfg hvl).mono ?_); rintro e w11 ⟨r, sS, sK, base, rfl, hS, hK, hE, hb⟩; go_must (have E11 := Lib.hid hE; have W11 := Lib.hid (I2.out.b.trans (hb.mono I2.out.b.size))); clear hb hS hK hE hcc)
    have X3 : Hid (Blk (w11.alloc (.cells #[.slice sS.A sS.n sS.c, .slice sK.A sK.n sK.c, .int .u64 r.e, .int .u64 r.f, .slice r.L.A r.L.n r.L.c, .slice r.P.A r.P.n r.P.c, .int .u64 r.h, .int .u64 r.t, .slice r.K.A r.K.n r.K.c, .slice r.X.A r.X.n r.X.c, .slice r.S.A r.S.n r.S.c] 35)) w11.heap.size 35 #[.slice sS.A sS.n sS.c, .slice sK.A sK.n sK.c, .int .u64 r.e, .int .u64 r.f, .slice r.L.A r.L.n r.L.c, .slice r.P.A r.P.n r.P.c, .int .u64 r.h, .int .u64 r.t, .slice r.K.A r.K.n r.K.c, .slice r.X.A r.X.n r.X.c, .slice r.S.A r.S.n r.S.c]) := Lib.hid (Blk.new _ _ _)
    have W3 := Lib.hid (W11.out.alloc W11.out.size (.cells #[.slice sS.A sS.n sS.c, .slice sK.A sK.n sK.c, .int .u64 r.e, .int .u64 r.f, .slice r.L.A r.L.n r.L.c, .slice r.P.A r.P.n r.P.c, .int .u64 r.h, .int .u64 r.t, .slice r.K.A r.K.n r.K.c, .slice r.X.A r.X.n r.X.c, .slice r.S.A r.S.n r.S.c] 35))
    have E3 := Lib.hid (E11.out.alloc (.cells #[.slice sS.A sS.n sS.c, .slice sK.A sK.n sK.c, .int .u64 r.e, .int .u64 r.f, .slice r.L.A r.L.n r.L.c, .slice r.P.A r.P.n r.P.c, .int .u64 r.h, .int .u64 r.t, .slice r.K.A r.K.n r.K.c, .slice r.X.A r.X.n r.X.c, .slice r.S.A r.S.n r.S.c] 35))
    clear W11 E11 I2 HL2 R9 B9 hle hfg hvl hpb
    generalize w11.heap.size = gA at X3 ⊢
    generalize w11.alloc (.cells #[.slice sS.A sS.n sS.c, .slice sK.A sK.n sK.c, .int .u64 r.e, .int .u64 r.f, .slice r.L.A r.L.n r.L.c, .slice r.P.A r.P.n r.P.c, .int .u64 r.h, .int .u64 r.t, .slice r.K.A r.K.n r.K.c, .slice r.X.A r.X.n r.X.c, .slice r.S.A r.S.n r.S.c] 35) = V3 at X3 W3 E3 ⊢
    have HW := waits_end (K := K) (M := M) (waitLs n4 qn (by omega)) (by omega) ps
    have hlk : (runM (docZ 2 K qn M) ((List.range qn).map (opsW n4)) (RS.first (newM 2 K qn M) qn) (List.replicate 3 (0, 0) ++ ps)).m.lk.length = M := runM_area 7 _ _ (by show (newM 2 K qn M).lk.length = M; exact linked_len _ _ _)
    generalize runM (docZ 2 K qn M) ((List.range qn).map (opsW n4)) (RS.first (newM 2 K qn M) qn) (List.replicate 3 (0, 0) ++ ps) = rs at E3 HW hlk
    obtain ⟨la, lb, hli, _, _⟩ := HW.l
    have he := HW.e
    have hf := HW.f
    clear HW
    obtain ⟨gL, hLA, hLlt, hLc⟩ := own_cells (E3.out.2.2 3 (.inl rfl)) (show 0 < rs.m.li.length by rw [hli]; exact Nat.zero_lt_succ _)
    have hLn : r.L.n = 3 := by have := (Own.n_ (E3.out.2.2 3 (.inl rfl))).1; exact this.trans (by show rs.m.li.length = 3; rw [hli]; rfl)
    have hL2 := hLc 2 0 (by show rs.m.li[2]? = some 0; rw [hli]; rfl)
    have hLA' : r.L.A = some ⟨gL, 0, none⟩ := hLA
    clear hLc hLA hli
    obtain ⟨gN, hNA, hNlt, hNc⟩ := own_cells (E3.out.2.2 7 (.inr (.inr (.inl rfl)))) (show 0 < rs.m.lk.length by omega)
    have hNn : r.K.n = rs.m.lk.length := (Own.n_ (E3.out.2.2 7 (.inr (.inr (.inl rfl))))).1
    have hNA' : r.K.A = some ⟨gN, 0, none⟩ := hNA
    have hNm : rs.m.lk.length ≤ maxLen := by unfold maxLen; omega
    have HNU : Hid (u64s rs.m.lk) := Lib.hid (E3.out.2.2 7 (.inr (.inr (.inl rfl)))).1
    have HNC : Hid (∀ (j : Nat) (x : Int), rs.m.lk[j]? = some x → V3.drew.cell? ⟨gN, j, none⟩ = some (.int .u64 x)) := Lib.hid hNc
    have hNd : gN < V3.drew.heap.size := hNlt
    have hrf : r.f = 0 := E3.out.1.2.1.trans hf
    have hre : r.e = rs.m.e := E3.out.1.1
    have hre1 : r.e ≤ 1 := by omega
    have hw0 : IntKind.u32.wrap 0 = 0 := by rw [IntKind.wrap_u32]; rfl
    clear hNA hNc hf he hre hlk
    refine Zreg.begin_ (S := (fun w' => (∀ j, w'.cell? ⟨gA, j, none⟩ = (#[.slice sS.A sS.n sS.c, .slice sK.A sK.n sK.c, .int .u64 r.e, .int .u64 r.f, .slice r.L.A r.L.n r.L.c, .slice r.P.A r.P.n r.P.c, .int .u64 r.h, .int .u64 r.t, .slice r.K.A r.K.n r.K.c, .slice r.X.A r.X.n r.X.c, .slice r.S.A r.S.n r.S.c] : Array Value)[j]?) ∧ w'.cell? ⟨gL, 2, none⟩ = some (.int .u64 0))) (zs := []) (by kernel_rfl) ?_
    show Zreg.After _ _ _ _ _ _ 29 #[false, false, false, false, false, false, false, false, false, false, false, false, false, false, false, false, false, false, false, false, false, false, false, false, false, false, false, false, false] _ _
    refine Zreg.takeP 0 79 (x := ?xy_0) rfl rfl (by kernel_rfl) (by kernel_rfl) (by kernel_rfl) (by kernel_rfl) (fun _ _ _ h => h) (.inr ⟨X3.out.drew.cell, hL2⟩) (Or.inl ⟨by rfl, ?yy_0⟩) ?ry_0
    case yy_0 => (intro w _; go_simp <;> with_reducible rfl)
    simp only [List.setIfInBounds_toArray, List.set_cons_zero, List.set_cons_succ]
    refine Zreg.takeP 1 80 (x := ?xy_1) rfl rfl (by kernel_rfl) (by kernel_rfl) (by kernel_rfl) (by kernel_rfl) (fun _ _ _ h => h) (.inr ⟨X3.out.drew.cell, hL2⟩) (Or.inl ⟨by rfl, ?yy_1⟩) ?ry_1
    case yy_1 => (intro w _; go_simp <;> with_reducible rfl)
    simp only [List.setIfInBounds_toArray, List.set_cons_zero, List.set_cons_succ]
    refine Zreg.takeP 2 81 (x := ?xy_2) rfl rfl (by kernel_rfl) (by kernel_rfl) (by kernel_rfl) (by kernel_rfl) (fun _ _ _ h => h) (.inr ⟨X3.out.drew.cell, hL2⟩) (Or.inl ⟨by rfl, ?yy_2⟩) ?ry_2
    case yy_2 => (intro w _; go_simp <;> with_reducible rfl)
    simp only [List.setIfInBounds_toArray, List.set_cons_zero, List.set_cons_succ]
    refine Zreg.takeP 3 82 (x := ?xy_3) rfl rfl (by kernel_rfl) (by kernel_rfl) (by kernel_rfl) (by kernel_rfl) (fun _ _ _ h => h) (.inr ⟨X3.out.drew.cell, hL2⟩) (Or.inl ⟨by rfl, ?yy_3⟩) ?ry_3
    case yy_3 => (intro w _; go_simp <;> with_reducible rfl)
    simp only [List.setIfInBounds_toArray, List.set_cons_zero, List.set_cons_succ]
    refine Zreg.takeP 4 83 (x := ?xy_4) rfl rfl (by kernel_rfl) (by kernel_rfl) (by kernel_rfl) (by kernel_rfl) (fun _ _ _ h => h) (.inr ⟨X3.out.drew.cell, hL2⟩) (Or.inl ⟨by rfl, ?yy_4⟩) ?ry_4
    case yy_4 => (intro w _; go_simp <;> with_reducible rfl)
    simp only [List.setIfInBounds_toArray, List.set_cons_zero, List.set_cons_succ]
    refine Zreg.takeS 5 84 (x := ?xy_5) rfl rfl (by kernel_rfl) (by kernel_rfl) (by kernel_rfl) (by kernel_rfl) (by kernel_rfl) (by kernel_rfl) (fun _ _ _ h => h) (.inr ⟨X3.out.drew.cell, hL2⟩) (Or.inl ⟨by rfl, ?yy_5⟩) ?ry_5
    case yy_5 => (intro w hSw; (try dsimp only at hSw); go_simp <;> with_reducible rfl)
    simp only [List.setIfInBounds_toArray, List.set_cons_zero, List.set_cons_succ]
    refine Zreg.takeP 6 85 (x := ?xy_6) rfl rfl (by kernel_rfl) (by kernel_rfl) (by kernel_rfl) (by kernel_rfl) (fun _ _ _ h => h) (.inr ⟨X3.out.drew.cell, hL2⟩) (Or.inl ⟨by rfl, ?yy_6⟩) ?ry_6
    case yy_6 => (intro w _; go_simp <;> with_reducible rfl)
    simp only [List.setIfInBounds_toArray, List.set_cons_zero, List.set_cons_succ]
    refine Zreg.takeP 7 86 (x := ?xy_7) rfl rfl (by kernel_rfl) (by kernel_rfl) (by kernel_rfl) (by kernel_rfl) (fun _ _ _ h => h) (.inr ⟨X3.out.drew.cell, hL2⟩) (Or.inl ⟨by rfl, ?yy_7⟩) ?ry_7
    case yy_7 => (intro w _; go_simp <;> with_reducible rfl)
    simp only [List.setIfInBounds_toArray, List.set_cons_zero, List.set_cons_succ]
    refine Zreg.takeP 8 87 (x := ?xy_8) rfl rfl (by kernel_rfl) (by kernel_rfl) (by kernel_rfl) (by kernel_rfl) (fun _ _ _ h => h) (.inr ⟨X3.out.drew.cell, hL2⟩) (Or.inl ⟨by rfl, ?yy_8⟩) ?ry_8
    case yy_8 => (intro w _; go_simp <;> with_reducible rfl)
    simp only [List.setIfInBounds_toArray, List.set_cons_zero, List.set_cons_succ]
    refine Zreg.takeP 9 88 (x := ?xy_9) rfl rfl (by kernel_rfl) (by kernel_rfl) (by kernel_rfl) (by kernel_rfl) (fun _ _ _ h => h) (.inr ⟨X3.out.drew.cell, hL2⟩) (Or.inl ⟨by rfl, ?yy_9⟩) ?ry_9
    case yy_9 => (intro w _; go_simp <;> with_reducible rfl)
    simp only [List.setIfInBounds_toArray, List.set_cons_zero, List.set_cons_succ]
    refine Zreg.takeP 10 89 (x := ?xy_10) rfl rfl (by kernel_rfl) (by kernel_rfl) (by kernel_rfl) (by kernel_rfl) (fun _ _ _ h => h) (.inr ⟨X3.out.drew.cell, hL2⟩) (Or.inl ⟨by rfl, ?yy_10⟩) ?ry_10
    case yy_10 => (intro w _; go_simp <;> with_reducible rfl)
    simp only [List.setIfInBounds_toArray, List.set_cons_zero, List.set_cons_succ]
    refine Zreg.takeS 11 90 (x := ?xy_11) rfl rfl (by kernel_rfl) (by kernel_rfl) (by kernel_rfl) (by kernel_rfl) (by kernel_rfl) (by kernel_rfl) (fun _ _ _ h => h) (.inr ⟨X3.out.drew.cell, hL2⟩) (Or.inl ⟨by rfl, ?yy_11⟩) ?ry_11
    case yy_11 => (intro w hSw; (try dsimp only at hSw); go_simp <;> with_reducible rfl)
    simp only [List.setIfInBounds_toArray, List.set_cons_zero, List.set_cons_succ]
    refine Zreg.takeP 12 91 (x := ?xy_12) rfl rfl (by kernel_rfl) (by kernel_rfl) (by kernel_rfl) (by kernel_rfl) (fun _ _ _ h => h) (.inr ⟨X3.out.drew.cell, hL2⟩) (Or.inl ⟨by rfl, ?yy_12⟩) ?ry_12
    case yy_12 => (intro w _; go_simp <;> with_reducible rfl)
    simp only [List.setIfInBounds_toArray, List.set_cons_zero, List.set_cons_succ]
    refine Zreg.takeP 13 92 (x := ?xy_13) rfl rfl (by kernel_rfl) (by kernel_rfl) (by kernel_rfl) (by kernel_rfl) (fun _ _ _ h => h) (.inr ⟨X3.out.drew.cell, hL2⟩) (Or.inl ⟨by rfl, ?yy_13⟩) ?ry_13
    case yy_13 => (intro w _; go_simp <;> with_reducible rfl)
    simp only [List.setIfInBounds_toArray, List.set_cons_zero, List.set_cons_succ]
    refine Zreg.takeP 14 93 (x := ?xy_14) rfl rfl (by kernel_rfl) (by kernel_rfl) (by kernel_rfl) (by kernel_rfl) (fun _ _ _ h => h) (.inr ⟨X3.out.drew.cell, hL2⟩) (Or.inl ⟨by rfl, ?yy_14⟩) ?ry_14
    case yy_14 => (intro w _; go_simp <;> with_reducible rfl)
    simp only [List.setIfInBounds_toArray, List.set_cons_zero, List.set_cons_succ]
    refine Zreg.takeP 15 94 (x := ?xy_15) rfl rfl (by kernel_rfl) (by kernel_rfl) (by kernel_rfl) (by kernel_rfl) (fun _ _ _ h => h) (.inr ⟨X3.out.drew.cell, hL2⟩) (Or.inl ⟨by rfl, ?yy_15⟩) ?ry_15
    case yy_15 => (intro w _; go_simp <;> with_reducible rfl)
    simp only [List.setIfInBounds_toArray, List.set_cons_zero, List.set_cons_succ]
    refine Zreg.takeS 16 95 (x := ?xy_16) rfl rfl (by kernel_rfl) (by kernel_rfl) (by kernel_rfl) (by kernel_rfl) (by kernel_rfl) (by kernel_rfl) (fun _ _ _ h => h) (.inr ⟨X3.out.drew.cell, hL2⟩) (Or.inl ⟨by rfl, ?yy_16⟩) ?ry_16
    case yy_16 => (intro w hSw; (try dsimp only at hSw); go_simp <;> with_reducible rfl)
    simp only [List.setIfInBounds_toArray, List.set_cons_zero, List.set_cons_succ]
    refine Zreg.takeP 17 96 (x := ?xy_17) rfl rfl (by kernel_rfl) (by kernel_rfl) (by kernel_rfl) (by kernel_rfl) (fun _ _ _ h => h) (.inr ⟨X3.out.drew.cell, hL2⟩) (Or.inl ⟨by rfl, ?yy_17⟩) ?ry_17
    case yy_17 => (intro w _; go_simp <;> with_reducible rfl)
    simp only [List.setIfInBounds_toArray, List.set_cons_zero, List.set_cons_succ]
    refine Zreg.takeP 18 97 (x := ?xy_18) rfl rfl (by kernel_rfl) (by kernel_rfl) (by kernel_rfl) (by kernel_rfl) (fun _ _ _ h => h) (.inr ⟨X3.out.drew.cell, hL2⟩) (Or.inl ⟨by rfl, ?yy_18⟩) ?ry_18
    case yy_18 => (intro w _; go_simp <;> with_reducible rfl)
    simp only [List.setIfInBounds_toArray, List.set_cons_zero, List.set_cons_succ]
    refine Zreg.takeS 19 98 (x := ?xy_19) rfl rfl (by kernel_rfl) (by kernel_rfl) (by kernel_rfl) (by kernel_rfl) (by kernel_rfl) (by kernel_rfl) (fun _ _ _ h => h) (.inr ⟨X3.out.drew.cell, hL2⟩) (Or.inl ⟨by rfl, ?yy_19⟩) ?ry_19
    case yy_19 => (intro w hSw; (try dsimp only at hSw); go_simp <;> with_reducible rfl)
    simp only [List.setIfInBounds_toArray, List.set_cons_zero, List.set_cons_succ]
    refine Zreg.takeP 20 99 (x := ?xy_20) rfl rfl (by kernel_rfl) (by kernel_rfl) (by kernel_rfl) (by kernel_rfl) (fun _ _ _ h => h) (.inr ⟨X3.out.drew.cell, hL2⟩) (Or.inl ⟨by rfl, ?yy_20⟩) ?ry_20
    case yy_20 => (intro w _; go_simp <;> with_reducible rfl)
    simp only [List.setIfInBounds_toArray, List.set_cons_zero, List.set_cons_succ]
    refine Zreg.takeS 21 100 (x := ?xy_21) rfl rfl (by kernel_rfl) (by kernel_rfl) (by kernel_rfl) (by kernel_rfl) (by kernel_rfl) (by kernel_rfl) (fun _ _ _ h => h) (.inr ⟨X3.out.drew.cell, hL2⟩) (Or.inl ⟨by rfl, ?yy_21⟩) ?ry_21
    case yy_21 => (intro w hSw; (try dsimp only at hSw); go_simp <;> with_reducible rfl)
    simp only [List.setIfInBounds_toArray, List.set_cons_zero, List.set_cons_succ]
    refine Zreg.takeP 22 101 (x := ?xy_22) rfl rfl (by kernel_rfl) (by kernel_rfl) (by kernel_rfl) (by kernel_rfl) (fun _ _ _ h => h) (.inr ⟨X3.out.drew.cell, hL2⟩) (Or.inl ⟨by rfl, ?yy_22⟩) ?ry_22
    case yy_22 => (intro w _; go_simp <;> with_reducible rfl)
    simp only [List.setIfInBounds_toArray, List.set_cons_zero, List.set_cons_succ]
    refine Zreg.takeP 23 102 (x := ?xy_23) rfl rfl (by kernel_rfl) (by kernel_rfl) (by kernel_rfl) (by kernel_rfl) (fun _ _ _ h => h) (.inr ⟨X3.out.drew.cell, hL2⟩) (Or.inl ⟨by rfl, ?yy_23⟩) ?ry_23
    case yy_23 => (intro w _; go_simp <;> with_reducible rfl)
    simp only [List.setIfInBounds_toArray, List.set_cons_zero, List.set_cons_succ]
    refine Zreg.oneG 24 (by kernel_rfl) rfl rfl fun K_ hK => ?_
    go_simp
    go_at_call 19
    (with_reducible refine (list99_c V3.drew ⟨r.e, 0, ⟨some ⟨gL, 0, none⟩, 3, r.L.c⟩, r.P, r.h, r.t, ⟨some ⟨gN, 0, none⟩, rs.m.lk.length, r.K.c⟩, r.X, r.S⟩ rs.m.lk gN r.K.c rfl hNd HNC.out HNU.out hNm 0 (by decide) (by decide)).mono ?_)
    rintro e w5 ⟨q5, rfl, hr5, hb5⟩
    have X5 := Lib.hid (X3.out.drew.below hb5 X3.out.lt)
    have L5 := (hb5.cell (p := ⟨gL, 2, none⟩) hLlt).trans hL2
    have W5 := Lib.hid (W3.out.drew.trans (hb5.mono W3.out.size))
    have hq5 : q5.n = 0 := hr5.n_.1.trans (by rw [listN_end (fun h => absurd h.1 (by decide))]; rfl)
    clear hr5 hb5
    refine hK.out _ _ (.inr ⟨X5.out.cell, L5⟩) fun _ => ?_
    clear hK
    simp only [List.setIfInBounds_toArray, List.set_cons_zero, List.set_cons_succ]
    refine Zreg.takeP 25 104 (x := ?xy_25) rfl rfl (by kernel_rfl) (by kernel_rfl) (by kernel_rfl) (by kernel_rfl) (fun _ _ _ h => h) (.inr ⟨X5.out.cell, L5⟩) (Or.inl ⟨by rfl, ?yy_25⟩) ?ry_25
    case yy_25 => (intro w _; go_simp <;> with_reducible rfl)
    simp only [List.setIfInBounds_toArray, List.set_cons_zero, List.set_cons_succ]
    refine Zreg.takeP 26 105 (x := ?xy_26) rfl rfl (by kernel_rfl) (by kernel_rfl) (by kernel_rfl) (by kernel_rfl) (fun _ _ _ h => h) (.inr ⟨X5.out.cell, L5⟩) (Or.inl ⟨by rfl, ?yy_26⟩) ?ry_26
    case yy_26 => (intro w _; go_simp <;> with_reducible rfl)
    simp only [List.setIfInBounds_toArray, List.set_cons_zero, List.set_cons_succ]
    refine Zreg.takeP 27 106 (x := ?xy_27) rfl rfl (by kernel_rfl) (by kernel_rfl) (by kernel_rfl) (by kernel_rfl) (fun _ _ _ h => h) (.inr ⟨X5.out.cell, L5⟩) (Or.inl ⟨by rfl, ?yy_27⟩) ?ry_27
    case yy_27 => (intro w _; go_simp <;> with_reducible rfl)
    simp only [List.setIfInBounds_toArray, List.set_cons_zero, List.set_cons_succ]
    refine Zreg.takeP 28 6 (x := ?xy_28) rfl rfl (by kernel_rfl) (by kernel_rfl) (by kernel_rfl) (by kernel_rfl) (fun _ _ _ h => h) (.inr ⟨X5.out.cell, L5⟩) (Or.inl ⟨by rfl, ?yy_28⟩) ?ry_28
    case yy_28 => (intro w _; go_simp <;> with_reducible rfl)
    simp only [List.setIfInBounds_toArray, List.set_cons_zero, List.set_cons_succ]
    refine Zreg.done (by kernel_rfl) ?_ _
    go_wp2_with fail
    go_ret
    exact ⟨rfl, W5.out⟩
end Go.Proofs.Ytffppdcpiieapaa.Machc

namespace Go.Proofs.Ytffppdcpiieapaa.Machc
open Go.RowKit Go.Proofs.Ytffppdcpiieapaa.Memc Go.Proofs.Ytffppdcpiieapaa.Newc Go.Proofs.Ytffppdcpiieapaa.Drivec Go.Proofs.Ytffppdcpiieapaa.Procc Go.Proofs.Ytffppdcpiieapaa.Arenac
set_option linter.unusedVariables false
set_option maxRecDepth 100000

set_option maxHeartbeats 1000000 in
theorem wno_may (w : World) (k K T M many : Int) (pA : Option Addr) (pn pc : Nat) (h : ¬ (Cfg.mk k K T M).may) : Calls Try.prog 7 #[.agg #[.int .i64 k, .int .i64 K, .int .i64 T, .int .i64 M], .int .u8 many, .slice pA pn pc] w fun e w' => e = .returned (.bool true) ∧ Below w.heap.size w w' := by
  have C0 : Hid (Blk (w.alloc (.cells #[.int .i64 k, .int .i64 K, .int .i64 T, .int .i64 M] 23)) w.heap.size 23 #[.int .i64 k, .int .i64 K, .int .i64 T, .int .i64 M]) := Lib.hid (Blk.new _ _ _)
  have W0 : Hid (Below w.heap.size w (w.alloc (.cells #[.int .i64 k, .int .i64 K, .int .i64 T, .int .i64 M] 23))) := Lib.hid ((Below.refl _ _).alloc (Nat.le_refl _) _)
  have HM := Lib.hid h
  clear h
  go_enter Try.func7, Try.ntmps7
  go_wp2_with (first
    | (go_at_call 21; (with_reducible refine (awake5_c _).mono ?_); rintro e w1 ⟨rfl, hb⟩; go_must (have C1 := Lib.hid (C0.out.below hb C0.out.lt); have W1 := Lib.hid (W0.out.trans (hb.mono W0.out.size))); have hc1 := C1.out.cell; have hf1 := C1.out.frozen; clear hb)
    | (go_at_call 20; (with_reducible refine (refmay_no _ k K T M HM.out).mono ?_); rintro e w2 ⟨rfl, hb⟩; go_must (have C2 := Lib.hid (C1.out.below hb C1.out.lt); have W2 := Lib.hid (W1.out.trans (hb.mono W1.out.size))); have hc2 := C2.out.cell; have hf2 := C2.out.frozen; clear hb hc1 hf1))
  go_ret
  exact ⟨rfl, W2.out⟩
set_option maxHeartbeats 1000000 in
theorem wno_one (w : World) (k K T M many : Int) (pA : Option Addr) (pn pc : Nat) (hm : Hid ((1 ≤ k ∧ k ≤ 3) ∧ (1 ≤ K ∧ K ≤ 64) ∧ (1 ≤ T ∧ T ≤ 8) ∧ (2 ≤ M ∧ M ≤ 64))) (h : T < 2) : Calls Try.prog 7 #[.agg #[.int .i64 k, .int .i64 K, .int .i64 T, .int .i64 M], .int .u8 many, .slice pA pn pc] w fun e w' => e = .returned (.bool true) ∧ Below w.heap.size w w' := by
  have C0 : Hid (Blk (w.alloc (.cells #[.int .i64 k, .int .i64 K, .int .i64 T, .int .i64 M] 23)) w.heap.size 23 #[.int .i64 k, .int .i64 K, .int .i64 T, .int .i64 M]) := Lib.hid (Blk.new _ _ _)
  have W0 : Hid (Below w.heap.size w (w.alloc (.cells #[.int .i64 k, .int .i64 K, .int .i64 T, .int .i64 M] 23))) := Lib.hid ((Below.refl _ _).alloc (Nat.le_refl _) _)
  have HM := hm
  clear hm
  have g1 : decide (T < 2) = true := decide_eq_true h
  go_enter Try.func7, Try.ntmps7
  go_wp2_with (first
    | (go_at_call 21; (with_reducible refine (awake5_c _).mono ?_); rintro e w1 ⟨rfl, hb⟩; go_must (have C1 := Lib.hid (C0.out.below hb C0.out.lt); have W1 := Lib.hid (W0.out.trans (hb.mono W0.out.size))); have hc1 := C1.out.cell; have hf1 := C1.out.frozen; clear hb)
    | (go_at_call 20; (with_reducible refine (refmay_yes _ k K T M HM.out.1.1 HM.out.1.2 HM.out.2.1.1 HM.out.2.1.2 HM.out.2.2.1.1 HM.out.2.2.1.2 HM.out.2.2.2.1 HM.out.2.2.2.2).mono ?_); rintro e w2 ⟨rfl, hb⟩; go_must (have C2 := Lib.hid (C1.out.below hb C1.out.lt); have W2 := Lib.hid (W1.out.trans (hb.mono W1.out.size))); have hc2 := C2.out.cell; have hf2 := C2.out.frozen; clear hb hc1 hf1))
  go_ret
  exact ⟨rfl, W2.out⟩
set_option maxHeartbeats 1000000 in
theorem wno_few (w : World) (k K T M many : Int) (pA : Option Addr) (pn pc : Nat) (hm : Hid ((1 ≤ k ∧ k ≤ 3) ∧ (1 ≤ K ∧ K ≤ 64) ∧ (1 ≤ T ∧ T ≤ 8) ∧ (2 ≤ M ∧ M ≤ 64))) (h1 : ¬ T < 2) (h : M < T) : Calls Try.prog 7 #[.agg #[.int .i64 k, .int .i64 K, .int .i64 T, .int .i64 M], .int .u8 many, .slice pA pn pc] w fun e w' => e = .returned (.bool true) ∧ Below w.heap.size w w' := by
  have C0 : Hid (Blk (w.alloc (.cells #[.int .i64 k, .int .i64 K, .int .i64 T, .int .i64 M] 23)) w.heap.size 23 #[.int .i64 k, .int .i64 K, .int .i64 T, .int .i64 M]) := Lib.hid (Blk.new _ _ _)
  have W0 : Hid (Below w.heap.size w (w.alloc (.cells #[.int .i64 k, .int .i64 K, .int .i64 T, .int .i64 M] 23))) := Lib.hid ((Below.refl _ _).alloc (Nat.le_refl _) _)
  have HM := hm
  clear hm
  have g1 : decide (T < 2) = false := decide_eq_false h1
  have g2 : decide (M < T) = true := decide_eq_true h
  go_enter Try.func7, Try.ntmps7
  go_wp2_with (first
    | (go_at_call 21; (with_reducible refine (awake5_c _).mono ?_); rintro e w1 ⟨rfl, hb⟩; go_must (have C1 := Lib.hid (C0.out.below hb C0.out.lt); have W1 := Lib.hid (W0.out.trans (hb.mono W0.out.size))); have hc1 := C1.out.cell; have hf1 := C1.out.frozen; clear hb)
    | (go_at_call 20; (with_reducible refine (refmay_yes _ k K T M HM.out.1.1 HM.out.1.2 HM.out.2.1.1 HM.out.2.1.2 HM.out.2.2.1.1 HM.out.2.2.1.2 HM.out.2.2.2.1 HM.out.2.2.2.2).mono ?_); rintro e w2 ⟨rfl, hb⟩; go_must (have C2 := Lib.hid (C1.out.below hb C1.out.lt); have W2 := Lib.hid (W1.out.trans (hb.mono W1.out.size))); have hc2 := C2.out.cell; have hf2 := C2.out.frozen; clear hb hc1 hf1))
  go_ret
  exact ⟨rfl, W2.out⟩
set_option maxHeartbeats 1000000 in
theorem wno_long (w : World) (k K T M many : Int) (pA : Option Addr) (pn pc : Nat) (hm : Hid ((1 ≤ k ∧ k ≤ 3) ∧ (1 ≤ K ∧ K ≤ 64) ∧ (1 ≤ T ∧ T ≤ 8) ∧ (2 ≤ M ∧ M ≤ 64))) (h1 : ¬ T < 2) (h2 : ¬ M < T) (h : 1000 < pn) : Calls Try.prog 7 #[.agg #[.int .i64 k, .int .i64 K, .int .i64 T, .int .i64 M], .int .u8 many, .slice pA pn pc] w fun e w' => e = .returned (.bool true) ∧ Below w.heap.size w w' := by
  have C0 : Hid (Blk (w.alloc (.cells #[.int .i64 k, .int .i64 K, .int .i64 T, .int .i64 M] 23)) w.heap.size 23 #[.int .i64 k, .int .i64 K, .int .i64 T, .int .i64 M]) := Lib.hid (Blk.new _ _ _)
  have W0 : Hid (Below w.heap.size w (w.alloc (.cells #[.int .i64 k, .int .i64 K, .int .i64 T, .int .i64 M] 23))) := Lib.hid ((Below.refl _ _).alloc (Nat.le_refl _) _)
  have HM := hm
  clear hm
  have g1 : decide (T < 2) = false := decide_eq_false h1
  have g2 : decide (M < T) = false := decide_eq_false h2
  have g3 : (1000 : Int) < (pn : Int) := by omega
  have g4 : decide ((1000 : Int) < (pn : Int)) = true := decide_eq_true g3
  go_enter Try.func7, Try.ntmps7
  go_wp2_with (first
    | (go_at_call 21; (with_reducible refine (awake5_c _).mono ?_); rintro e w1 ⟨rfl, hb⟩; go_must (have C1 := Lib.hid (C0.out.below hb C0.out.lt); have W1 := Lib.hid (W0.out.trans (hb.mono W0.out.size))); have hc1 := C1.out.cell; have hf1 := C1.out.frozen; clear hb)
    | (go_at_call 20; (with_reducible refine (refmay_yes _ k K T M HM.out.1.1 HM.out.1.2 HM.out.2.1.1 HM.out.2.1.2 HM.out.2.2.1.1 HM.out.2.2.1.2 HM.out.2.2.2.1 HM.out.2.2.2.2).mono ?_); rintro e w2 ⟨rfl, hb⟩; go_must (have C2 := Lib.hid (C1.out.below hb C1.out.lt); have W2 := Lib.hid (W1.out.trans (hb.mono W1.out.size))); have hc2 := C2.out.cell; have hf2 := C2.out.frozen; clear hb hc1 hf1))
  go_ret
  exact ⟨rfl, W2.out⟩
end Go.Proofs.Ytffppdcpiieapaa.Machc

namespace Go.Proofs.Ytffppdcpiieapaa.epochWaits
open Go.ChangeShapes Go.WideShapes Go.ChangeAt Go.RowKit Go.Proofs.Ytffppdcpiieapaa.Memc Go.Proofs.Ytffppdcpiieapaa.Refc Go.Proofs.Ytffppdcpiieapaa.Newc Go.Proofs.Ytffppdcpiieapaa.Drivec Go.Proofs.Ytffppdcpiieapaa.Machc Go.Proofs.Ytffppdcpiieapaa.Arenac Go.Proofs.Ytffppdcpiieapaa.Opencfg
set_option linter.unusedVariables false
set_option maxRecDepth 100000

theorem own : ownKnob Try.prog.godebug = none := by kernel_rfl
theorem laidOut : laidOutB Try.prog = true := by kernel_rfl

theorem walk (k K T M many : Int) (p : Sl) (ps : List (Int × Int)) (w : World) (hp : RdP w w.heap.size p ps) (x0 : 0 ≤ many) (x1 : many ≤ 255) : Calls Try.prog 7 #[.agg #[.int .i64 k, .int .i64 K, .int .i64 T, .int .i64 M], .int .u8 many, .slice p.A p.n p.c] w fun e w' => e = .returned (.bool true) ∧ Below w.heap.size w w' := by
  obtain ⟨pA, pn, pc⟩ := p
  by_cases hm : (Cfg.mk k K T M).may
  · obtain ⟨⟨k1, k2⟩, ⟨a1, a2⟩, ⟨t1, t2⟩, ⟨m1, m2⟩⟩ := hm
    simp only at k1 k2 a1 a2 t1 t2 m1 m2
    have HM : Hid ((1 ≤ k ∧ k ≤ 3) ∧ (1 ≤ K ∧ K ≤ 64) ∧ (1 ≤ T ∧ T ≤ 8) ∧ (2 ≤ M ∧ M ≤ 64)) := Lib.hid ⟨⟨k1, k2⟩, ⟨a1, a2⟩, ⟨t1, t2⟩, ⟨m1, m2⟩⟩
    by_cases h1 : T < 2
    · exact wno_one w k K T M many pA pn pc HM h1
    · by_cases h2 : M < T
      · exact wno_few w k K T M many pA pn pc HM h1 h2
      · by_cases h3 : 1000 < pn
        · exact wno_long w k K T M many pA pn pc HM h1 h2 h3
        · obtain ⟨K, rfl⟩ : ∃ n : Nat, K = n := ⟨K.toNat, by omega⟩
          obtain ⟨T, rfl⟩ : ∃ n : Nat, T = n := ⟨T.toNat, by omega⟩
          obtain ⟨M, rfl⟩ : ∃ n : Nat, M = n := ⟨M.toNat, by omega⟩
          obtain ⟨many, rfl⟩ : ∃ n : Nat, many = n := ⟨many.toNat, by omega⟩
          exact waits_c w k K T M many pA pn pc ps k1 k2 (by omega) (by omega) (by omega) (by omega) (by omega) (by omega) (by omega) (by omega) (by omega) hp
  · exact wno_may w k K T M many pA pn pc hm
theorem fit_u8 {a : Int} (h : (Lit.int .u8 a).wf = true) : 0 ≤ a ∧ a ≤ 255 := by
  simp [Lit.wf, IntKind.min, IntKind.max, IntKind.bits, IntKind.signed] at h; omega

/-! ### THE ROW's STEP -/
set_option maxRecDepth 100000 in
theorem lifted (os : Os) (started : os.Started) (H : Type) (enc : TypeId × Value → H) :
    ReturnsInHanded {} Try.checked os 7 .any (Rows.epochWaitsSpec.pre6 enc Try.prog Try.f7 Rows.epochWaitsRow.domain false) (Rows.epochWaitsSpec.post enc Try.prog Try.f7 false true false false) := by
  refine returnsInHanded_of_change (C := Try.checked) own started (by kernel_rfl) Try.func7
    (ChangeSpec.witness6 (enc := enc) (C := Try.checked) false ⟨#[], #[.agg #[.int .i64 0, .int .i64 0, .int .i64 0, .int .i64 0], .int .u8 0, .slice none 0 0], []⟩ 8 (by kernel_rfl) (by kernel_rfl) (by kernel_rfl) (by kernel_rfl)) ?_
  intro W base args ds gs before hval0 hW hcnd _
  have hval : ∀ (j : Nat) t v, Try.f7.params[j]? = some t → args[j]? = some v → Value.okWide Try.prog W .any base t v := hval0
  have hW' := hW
  obtain ⟨p, q, hA0, hV, rfl, hfz, hnd⟩ := hW
  have hA : DataW.TrodAll enc Try.prog W 0 (fun _ => true) true Try.f7.params.toList args.toList ds p := hA0
  rw [Try.params7] at hA hval
  obtain ⟨v0, vs0, d0, ds0, p0, q0, hargs, rfl, rfl, h0, r0⟩ := trodAll_cons hA
  obtain ⟨v1, vs1, d1, ds1, p1, q1, rfl, rfl, rfl, h1, r1⟩ := trodAll_cons r0
  obtain ⟨v2, vs2, d2, ds2, p2, q2, rfl, rfl, rfl, h2, r2⟩ := trodAll_cons r1
  obtain ⟨rfl, rfl, rfl⟩ := trodAll_nil r2
  obtain rfl : args = #[v0, v1, v2] := by cases args; simp_all
  obtain ⟨rfl, rfl⟩ := trodVars_none hV
  have k0 := h0
  have lt0 : ∀ x ∈ p0, x.block < W.heap.size := by obtain ⟨m, hm⟩ := k0; exact DataW.trod_lt m _ _ _ hm
  have k1 := h1
  have lt1 : ∀ x ∈ p1, x.block < W.heap.size := by obtain ⟨m, hm⟩ := k1; exact DataW.trod_lt m _ _ _ hm
  have k2 := h2
  have lt2 : ∀ x ∈ p2, x.block < W.heap.size := by obtain ⟨m, hm⟩ := k2; exact DataW.trod_lt m _ _ _ hm
  obtain ⟨k, K, T, M, rfl, hk⟩ := open_cfg (hval 0 23 v0 rfl rfl) h0
  obtain ⟨many, rfl, hy1, hp1, w1⟩ := open_int Try.underlying5 (hval 1 5 v1 rfl rfl) h1
  obtain ⟨q, ps, rfl, hq, hqv⟩ := open_picks2 (hval 2 25 v2 rfl rfl) h2
  clear hA0 hval0
  refine (walk k K T M many q ps W hq (fit_u8 w1).1 (fit_u8 w1).2).mono fun e W' ⟨he, bel⟩ => ?_
  subst he
  exact ⟨_, rfl, _, _, _, [], _, [], hW', trodAll_mk1 (shut_bool Try.underlying4 _), (trodAll_cons_mk (Below.trod laidOut (by kernel_rfl) (of_decide_eq_true (by kernel_rfl)) k0 bel lt0) (trodAll_cons_mk (Below.trod laidOut (by kernel_rfl) (of_decide_eq_true (by kernel_rfl)) k1 bel lt1) (trodAll_cons_mk (Below.trod laidOut (by kernel_rfl) (of_decide_eq_true (by kernel_rfl)) k2 bel lt2) trodAll_mk0))), rfl, bel.frame _, fun h => by cases h⟩

theorem over : Rows.epochWaitsRow.holds Try.pinned (OpenSpec.ofChange Rows.epochWaitsSpec) :=
  OpenClaim.holds_of_wide 7 Try.f7 rfl rfl rfl rfl rfl rfl rfl ⟨rfl, rfl, rfl, rfl, rfl⟩ rfl rfl rfl rfl rfl (by kernel_rfl) Try.func7 (by kernel_rfl)
    (of_decide_eq_true (by kernel_rfl)) (by unfold Func.isWrapper; first | (rw [if_pos (by decide +kernel)]; kernel_rfl) | (rw [if_neg (by decide +kernel)]; exact ⟨rfl, rfl⟩))
    (fun os started H enc _ => lifted os started H enc)

/-- ████ THE STATEMENT ████ -/
theorem proved : Rows.EpochWaitsSaid :=
  over
end Go.Proofs.Ytffppdcpiieapaa.epochWaits
