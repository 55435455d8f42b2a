/- A turn of a run of accesses, by contract. -/
import Derived.Test.YtjgbgjkjnlaloaaDrvD
namespace Go.Proofs.Ytjgbgjkjnlaloaa.Drivec
open Go.RowKit Go.Proofs.Ytjgbgjkjnlaloaa.Memc Go.Proofs.Ytjgbgjkjnlaloaa.Procc Go.Proofs.Ytjgbgjkjnlaloaa.Storec
set_option linter.unusedVariables false
set_option maxRecDepth 100000

/-- what a turn touches: nothing below B, and blocks of the run's own types -/
def Fr (B : Nat) (w w' : World) : Prop := Only (fun g => B ≤ g ∧ ∀ t cs, Blk w g t cs → t = 132 ∨ t = 134 ∨ t = 65 ∨ t = 67 ∨ t = 51) w w'
theorem Fr.of_below {B : Nat} {w w' : World} (h : Below w.heap.size w w') : Fr B w w' := Only.of_below h (Nat.le_refl _)
theorem Fr.trans {B : Nat} {w w' w'' : World} (h : Fr B w w') (k : Fr B w' w'') : Fr B w w'' :=
  ⟨k.os.trans h.os, k.tape.trans h.tape, k.output.trans h.output, Nat.le_trans h.size k.size, fun i hi hn => by
    have e := h.block i hi hn
    refine (k.block i (Nat.lt_of_lt_of_le hi h.size) (fun hk => hn ⟨hk.1, fun t cs hb => hk.2 t cs (hb.moved e)⟩)).trans e⟩
theorem Fr.blk {B g : Nat} {t : TypeId} {cs : Array Value} {w w' : World} (h : Fr B w w') (hb : Blk w g t cs) (ht : t ≠ 132 ∧ t ≠ 134 ∧ t ≠ 65 ∧ t ≠ 67 ∧ t ≠ 51) : Blk w' g t cs :=
  hb.only h fun hk => by
    rcases hk.2 t cs hb with e | e | e | e | e
    · exact ht.1 e
    · exact ht.2.1 e
    · exact ht.2.2.1 e
    · exact ht.2.2.2.1 e
    · exact ht.2.2.2.2 e
theorem Fr.below {B : Nat} {w w' : World} (h : Fr B w w') (hB : B ≤ w.heap.size) : Below B w w' := Only.below h hB fun k hk => hk.1

theorem below_box (w : World) (o : Obj) (n : Nat) : Below w.heap.size w ((w.alloc o).drewN n) := ⟨rfl, rfl, rfl, by simp [World.drewN], fun k hk => Below.heap_alloc w o k hk⟩
/-- what a turn comes to -/
def Turned (w : World) (B base gC gT gL gLL T : Nat) (s : D) (e : Ending) (w' : World) : Prop :=
  e = .returned (.tuple #[]) ∧ Inv w' B base gC gT gL gLL T s ∧ Fr B w w'

set_option maxHeartbeats 2000000 in
theorem turn_off (w : World) (B base gC gT gL gLL T : Nat) (s : D) (t d : Int) (h : Inv w B base gC gT gL gLL T s) (ht : t < 0 ∨ (T : Int) ≤ t) (hT : T ≤ 8) :
    Calls Try.prog 85 #[.pointer (some ⟨gC, 0, none⟩), .agg #[.int .i64 t, .int .u32 d]] w (Turned w B base gC gT gL gLL T s) := by
  obtain ⟨⟨r, sS, sK, ct, cs, lc, hC, hrest⟩, hrest2⟩ := id h
  have HI := Lib.hid h
  have hc := hC.cell
  have hzC := hC.lt
  clear h hrest hrest2 hC
  rcases ht with ht | ht
  · go_enter Try.func85, Try.ntmps85
    go_wp2
    go_quiet (fail)
    go_wp2
    first | go_end0 | refine bodyPost_ret (results_none rfl _ _ _) rfl ?_
    exact ⟨rfl, HI.out.only (below_box _ _ _), Fr.of_below (below_box _ _ _)⟩
  · have h0 : decide (t < 0) = false := by simp; omega
    go_enter Try.func85, Try.ntmps85
    go_wp2
    go_quiet (fail)
    go_wp2
    first | go_end0 | refine bodyPost_ret (results_none rfl _ _ _) rfl ?_
    exact ⟨rfl, HI.out.only (below_box _ _ _), Fr.of_below (below_box _ _ _)⟩

theorem getD_of {α : Type} {l : List (List α)} {i : Nat} {x : List α} (h : l[i]? = some x) : l.getD i [] = x := by rw [List.getD_eq_getElem?_getD, h]; rfl

set_option maxHeartbeats 4000000 in
theorem turn_empty (w : World) (B base gC gT gL gLL T i : Nat) (s : D) (d : Int) (h : Inv w B base gC gT gL gLL T s) (hi : i < T) (hl : s.left[i]? = some []) (hT : T ≤ 8) :
    Calls Try.prog 85 #[.pointer (some ⟨gC, 0, none⟩), .agg #[.int .i64 i, .int .u32 d]] w (Turned w B base gC gT gL gLL T s) := by
  obtain ⟨⟨r, sS, sK, ct, cs, lc, hC, hTT, hE, hS, hK, hL, hLL, hops, hacc⟩, hrest2⟩ := id h
  have HI := Lib.hid h
  have hc := hC.cell
  have hzC := hC.lt
  have hzT := hTT.lt
  obtain ⟨so, hid, hop⟩ := hops i hi
  rw [getD_of hl] at hop
  have hso : so.n = 0 := hop.1
  have c0 := (hTT.cell (i * 9)).trans hid.1
  have c1 := (hTT.cell (i * 9 + 1)).trans hid.2.1
  rw [hso] at c0
  have h0 : decide ((i : Int) < 0) = false := by simp
  have h1 : decide ((T : Int) ≤ i) = false := by simp; omega
  have i0 : (0 : Int) ≤ i := by omega
  have i1 : (i : Int) < T := by omega
  have i2 : (T : Int) ≤ 8 := by omega
  clear h hrest2 hC hTT hE hS hK hL hLL hops hacc hop hid hl hi hT hso
  go_enter Try.func85, Try.ntmps85
  go_wp2
  go_quiet (fail)
  go_wp2
  go_quiet (fail)
  go_wp2
  first | go_end0 | refine bodyPost_ret (results_none rfl _ _ _) rfl ?_
  exact ⟨rfl, HI.out.only (below_box _ _ _), Fr.of_below (below_box _ _ _)⟩

theorem fr_mem {w : World} {B g : Nat} {u : TypeId} {ds : Array Value} (hb : Blk w g u ds) (hB : B ≤ g) (hu : u = 132 ∨ u = 134 ∨ u = 65 ∨ u = 67 ∨ u = 51) :
    B ≤ g ∧ ∀ t cs, Blk w g t cs → t = 132 ∨ t = 134 ∨ t = 65 ∨ t = 67 ∨ t = 51 := ⟨hB, fun t cs h => by
  have e : u = t := by
    unfold Blk at hb h
    rw [hb] at h
    injection h with h
    injection h with _ h
  rw [← e]; exact hu⟩
theorem Fr.new {B : Nat} {w w' w'' : World} (h : Fr B w w') (k : Only (fun g => (B ≤ g ∧ ∀ t cs, Blk w' g t cs → t = 132 ∨ t = 134 ∨ t = 65 ∨ t = 67 ∨ t = 51) ∨ w.heap.size ≤ g) w' w'') : Fr B w w'' :=
  ⟨k.os.trans h.os, k.tape.trans h.tape, k.output.trans h.output, Nat.le_trans h.size k.size, fun i hi hn => by
    have e := h.block i hi hn
    refine (k.block i (Nat.lt_of_lt_of_le hi h.size) (fun hk => ?_)).trans e
    rcases hk with hk | hk
    · exact hn ⟨hk.1, fun t cs hb => hk.2 t cs (hb.moved e)⟩
    · omega⟩
theorem new_at (l : List Cl) (q : List Value) (k j : Nat) (hk : k = l.length) : (flatC l ++ q)[k * 7 + j]? = q[j]? := by
  subst hk
  rw [List.getElem?_append_right (by rw [flatC_len]; omega), flatC_len]
  congr 1
  omega

set_option maxHeartbeats 4000000 in
theorem turn_go (w : World) (B base gC gT gL gLL T i : Nat) (s : D) (d : Int) (a : Acc) (l : List Acc) (h : Inv w B base gC gT gL gLL T s) (hi : i < T) (hl : s.left[i]? = some (a :: l)) (hT : T ≤ 8) (hn : s.steps.length < 90000) :
    Calls Try.prog 85 #[.pointer (some ⟨gC, 0, none⟩), .agg #[.int .i64 i, .int .u32 d]] w (Turned w B base gC gT gL gLL T (turn s i)) := by
  obtain ⟨⟨r, sS, sK, ct, cs, lc, hC, hTT, hE, hS, hK, hL, hLL, hops, hacc⟩, hrest2⟩ := id h
  have HI := Lib.hid h
  have HLf := Lib.hid hl
  have HN := Lib.hid hn
  have hc := hC.cell
  have hzC := hC.lt
  have hzT := hTT.lt
  obtain ⟨so, hid, hop⟩ := hops i hi
  rw [getD_of hl] at hop
  have hso : so.n = l.length + 1 := hop.1
  have c0 := (hTT.cell (i * 9)).trans hid.1
  have c1 := (hTT.cell (i * 9 + 1)).trans hid.2.1
  rw [hso] at c0
  have h0 : decide ((i : Int) < 0) = false := by simp
  have h1 : decide ((T : Int) ≤ i) = false := by simp; omega
  have h2 : ((l.length : Int) + 1 == 0) = false := by simp; omega
  have i0 : (0 : Int) ≤ i := by omega
  have i1 : (i : Int) < T := by omega
  have i2 : (T : Int) ≤ 8 := by omega
  have i3 : 0 ≤ (l.length : Int) := by omega
  clear h hrest2 hC hTT hE hS hK hL hLL hops hacc hop hid hl hso hn
  go_enter Try.func85, Try.ntmps85
  go_wp2_with fail
  go_quiet (fail)
  obtain ⟨n1, rfl⟩ : ∃ n, n = nq := ⟨_, rfl⟩
  go_wp2_with fail
  go_quiet (fail)
  obtain ⟨n2, rfl⟩ : ∃ n, n = nq := ⟨_, rfl⟩
  go_wp2_with fail
  have IV := HI.out.only (below_box w (.cells #[.int .i64 i, .int .u32 d] 63) (n1 + n2))
  have FV : Fr B w ((w.alloc (.cells #[.int .i64 i, .int .u32 d] 63)).drewN (n1 + n2)) := Fr.of_below (below_box _ _ _)
  have PX : Blk ((w.alloc (.cells #[.int .i64 i, .int .u32 d] 63)).drewN (n1 + n2)) w.heap.size 63 #[.int .i64 i, .int .u32 d] := (Blk.new _ _ _).drewN _
  clear hc hzC hzT c0 c1 h0 h1 h2 HI
  generalize (w.alloc (.cells #[.int .i64 i, .int .u32 d] 63)).drewN (n1 + n2) = V at IV FV PX ⊢
  obtain ⟨⟨r, sS, sK, ct, cs, lc, hC, hTT, hE, hS, hK, hL, hLL, hops, hacc⟩, hlen, hcalls, hfew, hBb, hbV, hBC, hBT, hBLL, hbC, hbT⟩ := IV
  obtain ⟨so, hid, hop⟩ := hops i hi
  obtain ⟨sa, hcs, hra⟩ := hacc i hi
  rw [getD_of HLf.out] at hop hra
  have hsoL := hop.1
  obtain ⟨ob, oo, co, hoA, hoB, hoc⟩ := hop.2.2.2 (by simp)
  obtain ⟨b, off, haA, hab, hac⟩ := hra.2.2.2.2 (by rw [hra.1]; simp)
  obtain ⟨oA, oN, oC⟩ := so
  obtain ⟨aA, aN, aC⟩ := sa
  simp only at hoA hsoL haA hcs
  subst hoA
  subst hsoL
  subst haA
  have haN : aN = (a :: l).length := hra.1
  subst haN
  have q0 := hoc 0 (by simp)
  simp only [Nat.zero_mul, Nat.add_zero] at q0
  have p0 := hac 0 a rfl
  simp only [Nat.zero_mul, Nat.add_zero] at p0
  have hlt9 := idle_lt hid
  obtain ⟨d0, d1, ⟨cl, d2⟩, d3, d4, d5, d6, d7, d8⟩ := id hid
  have hbz : b < V.heap.size := by omega
  have hbT' : ¬ b = gT := by omega
  have hbLL : ¬ b = gLL := by omega
  have hKn := hK.n_.1
  have hSn := hS.n_.1
  have hok : a.ok := hra.2.2.2.1 a (List.mem_cons_self)
  have hcl2 : (a :: l).length ≤ oC := hop.2.1
  have hcl3 : oC ≤ maxLen := hop.2.2.1
  have hal2 : (a :: l).length ≤ aC := hra.2.1
  have hal3 : aC ≤ maxLen := hra.2.2.1
  have hst := start_c V gC gT gL gLL T lc i b off (a :: l).length aC (i * 9) ob oo (a :: l).length oC cs ct d cl a r ⟨some ⟨gT, 0, none⟩, T, T⟩ sS sK s.steps.length s.calls.length base (flatC s.calls)
    hC hTT d0 d1 d2 d3 d4 d5 d6 d7 d8 (by simp) hcl2 hcl3 hoB q0.1 q0.2 hSn hK (by rw [hcalls]; exact Nat.lt_of_lt_of_le HN.out (by decide)) (Nat.lt_of_lt_of_le HN.out (by decide)) hbV hL hLL hi hT hcs (by simp) hal2 hal3 hbz hbT' hbLL p0.1 p0.2.1 p0.2.2.1 p0.2.2.2.1 p0.2.2.2.2
  have HST := Lib.hid hst
  have G := Lib.hid (And.intro hC (And.intro hTT (And.intro hE (And.intro hS (And.intro hK (And.intro hL (And.intro hLL (And.intro hops hacc))))))))
  have G2 := Lib.hid (And.intro hlen (And.intro hcalls (And.intro hfew (And.intro hBb (And.intro hbV (And.intro hBC (And.intro hBT (And.intro hBLL (And.intro hbC hbT)))))))))
  have G3 := Lib.hid (And.intro hid (And.intro hop (And.intro hra (And.intro hcs (And.intro hKn (And.intro hSn (And.intro hlt9 hok)))))))
  have HFV := Lib.hid FV
  have HPX := Lib.hid PX
  clear hst hC hTT hE hS hK hL hLL hops hacc hlen hcalls hfew hBb hbV hBC hBT hBLL hbC hbT hid hop hra hcs hKn hSn hlt9 hok q0 p0 hoc hac hoB d0 d1 d2 d3 d4 d5 d6 d7 d8 hab hbz hbT' hbLL hcl2 hcl3 hal2 hal3 FV PX
  refine HST.out.mono ?_
  rintro e w2 hw2
  obtain ⟨P, ga, s1, rfl, C2, T2, M2, K2, L2, LL2, O2, hP, hga⟩ := hw2
  have hc8 := (T2.cell (i * 9 + 8)).trans (begun_at G3.out.2.2.2.2.2.2.1 _ _ _ _ _ _ _).2.2.2.2.2.2.2
  have PX2 : Blk w2 w.heap.size 63 #[.int .i64 i, .int .u32 d] := HPX.out.only O2 (by
    rintro ((hg | hg) | hg | hg)
    · exact Blk.ne HPX.out G.out.2.1 (by decide) hg
    · exact Blk.ne HPX.out G.out.2.2.2.2.2.2.1 (by decide) hg
    · exact Blk.ne HPX.out G.out.1 (by decide) hg
    · exact Row.ne G.out.2.2.2.2.1 HPX.out (by decide) _ hg rfl)
  have hpx := PX2.cell
  have J := Lib.hid (And.intro C2 (And.intro T2 (And.intro M2 (And.intro K2 (And.intro L2 (And.intro LL2 (And.intro O2 (And.intro hP hga))))))))
  clear C2 T2 M2 K2 L2 LL2 O2 hP hga PX2
  go_wp2_with fail
  -- MID2START
  obtain ⟨C2, T2, M2, K2, L2, LL2, O2, hP, hga⟩ := J.out
  obtain ⟨hC, hTT, hE, hS, hK, hL, hLL, hops, hacc⟩ := G.out
  obtain ⟨hlen, hcalls, hfew, hBb, hbV, hBC, hBT, hBLL, hbC, hbT⟩ := G2.out
  obtain ⟨hid, hop, hra, hcs, hKn, hSn, hlt9, hok⟩ := G3.out
  obtain ⟨b1, b2, b3, b4, b5, b6, b7, b8⟩ := begun_at hlt9 ob oo (a :: l).length oC sK.n P a
  have E2 : Endw w2 base r s.m := hE.only O2 (fun ar hl ad had => by
    rintro ((hg | hg) | hg | hg)
    · exact hE.ne hTT (by decide) (by decide) ar hl ad had hg
    · exact hE.ne hLL (by decide) (by decide) ar hl ad had hg
    · exact hE.ne hC (by decide) (by decide) ar hl ad had hg
    · obtain ⟨ds, hd⟩ := hK.blk hg
      exact hE.ne hd (by decide) (by decide) ar hl ad had rfl)
  have S2 : Row w2 base 65 8 sS s.steps.length (flatS s.steps) := hS.only O2 (fun g hg => by
    rintro ((h | h) | h | h)
    · exact hS.ne hTT (by decide) g hg h
    · exact hS.ne hLL (by decide) g hg h
    · exact hS.ne hC (by decide) g hg h
    · exact hS.ne_row hK (by decide) g hg g h rfl)
  have hst := step_c w2 gC gT gL (i * 9) i P ga base s.steps.length (s.calls.length + 1) sK.n (begun ct (i * 9) ob oo (a :: l).length oC sK.n P a) a r s.m ⟨some ⟨gT, 0, none⟩, T, T⟩ sS s1 (flatS s.steps) _ _ _ _
    C2 T2 b1 b2 b3 b4 b5 b6 b7 b8 E2 hfew hok S2 K2 (Nat.lt_of_lt_of_le HN.out (by decide)) (by rw [hcalls]; exact Nat.lt_of_lt_of_le (Nat.succ_lt_succ HN.out) (by decide)) (by omega) (new_at s.calls _ sK.n 4 hKn) (new_at s.calls _ sK.n 5 hKn) (new_at s.calls _ sK.n 6 hKn) M2 (Nat.le_trans hbV O2.size)
  have HST := Lib.hid hst
  have HE2 := Lib.hid E2
  have HS2 := Lib.hid S2
  clear hst C2 T2 M2 K2 L2 LL2 O2 hP hga hC hTT hE hS hK hL hLL hops hacc hlen hcalls hfew hBb hbV hBC hBT hBLL hbC hbT hid hop hra hcs hKn hSn hlt9 hok b1 b2 b3 b4 b5 b6 b7 b8 E2 S2 hc8 hpx
  refine HST.out.mono ?_
  rintro e w3 hw3
  obtain ⟨r3, s2, rfl, C3, T3, K3, S3, E3, O3⟩ := hw3
  have J3 := Lib.hid (And.intro C3 (And.intro T3 (And.intro K3 (And.intro S3 (And.intro E3 O3)))))
  clear C3 T3 K3 S3 E3 O3
  go_wp2
  go_end0
  obtain ⟨C3, T3, K3, S3, E3, O3⟩ := J3.out
  obtain ⟨C2, T2, M2, K2, L2, LL2, O2, hP, hga⟩ := J.out
  obtain ⟨hC, hTT, hE, hS, hK, hL, hLL, hops, hacc⟩ := G.out
  obtain ⟨hlen, hcalls, hfew, hBb, hbV, hBC, hBT, hBLL, hbC, hbT⟩ := G2.out
  obtain ⟨hid, hop, hra, hcs, hKn, hSn, hlt9, hok⟩ := G3.out
  have hS2 := HS2.out
  have hs2 : s2.n = s.steps.length + 1 := S3.n_.1
  have F2 : Fr B V w2 := O2.mono (by
    rintro g ((h | h) | h | h)
    · subst h; exact fr_mem hTT hBT (.inr (.inl rfl))
    · subst h; exact fr_mem hLL hBLL (.inr (.inr (.inr (.inr rfl))))
    · subst h; exact fr_mem hC hBC (.inl rfl)
    · obtain ⟨ds, hd⟩ := hK.blk h
      exact fr_mem hd (Nat.le_trans hBb (hK.lt h).1) (.inr (.inr (.inr (.inl rfl)))))
  have F3 : Fr B V w3 := F2.new (O3.mono (by
    rintro g ((h | h | h) | h | h)
    · subst h; exact .inl (fr_mem T2 hBT (.inr (.inl rfl)))
    · subst h; exact .inl (fr_mem C2 hBC (.inl rfl))
    · subst h; exact .inr hP
    · obtain ⟨ds, hd⟩ := hS2.blk h
      exact .inl (fr_mem hd (Nat.le_trans hBb (hS2.lt h).1) (.inr (.inr (.inl rfl))))
    · obtain ⟨ds, hd⟩ := K2.blk h
      exact .inl (fr_mem hd (Nat.le_trans hBb (K2.lt h).1) (.inr (.inr (.inr (.inl rfl)))))))
  have hB3 := F3.below (Nat.le_trans hBb hbV)
  have hnt : ∀ k t cs, Blk w2 k t cs → t ≠ 134 → t ≠ 132 → t ≠ 148 → t ≠ 65 → t ≠ 67 → ¬ ((k = gT ∨ k = gC ∨ k = P) ∨ bl sS k ∨ bl s1 k) := by
    rintro k t cs hk n1 n2 n3 n4 n5 ((h | h | h) | h | h)
    · exact Blk.ne hk T2 n1 h
    · exact Blk.ne hk C2 n2 h
    · exact Blk.ne hk M2.1 n3 h
    · obtain ⟨ds, hd⟩ := hS2.blk h
      exact Blk.ne hk hd n4 rfl
    · obtain ⟨ds, hd⟩ := K2.blk h
      exact Blk.ne hk hd n5 rfl
  have hno : ∀ k cs, Blk V k 81 cs → ¬ ((k = gT ∨ k = gLL) ∨ k = gC ∨ bl sK k) := by
    rintro k cs hk ((h | h) | h | h)
    · exact Blk.ne hk hTT (by decide) h
    · exact Blk.ne hk hLL (by decide) h
    · exact Blk.ne hk hC (by decide) h
    · obtain ⟨ds, hd⟩ := hK.blk h
      exact Blk.ne hk hd (by decide) rfl
  have hopw : ∀ so n, OpsAt V so n → OpsAt w3 so n := fun so n h => (h.only O2 hno).only O3 (fun k cs hk => hnt k _ cs hk (by decide) (by decide) (by decide) (by decide) (by decide))
  have hgl : i < s.left.length := by omega
  refine ⟨rfl, ?_, HFV.out.trans F3⟩
  rw [turn_some HLf.out]
  refine ⟨⟨r3, s2, s1, _, _, lc, C3, T3, E3, ?_, ?_, L2.only O3 (hnt gL _ _ L2 (by decide) (by decide) (by decide) (by decide) (by decide)), LL2.only O3 (hnt gLL _ _ LL2 (by decide) (by decide) (by decide) (by decide) (by decide)), fun j hj => ?_, fun j hj => ?_⟩, ?_, ?_, fun ar => ?_, hBb, Nat.le_trans hbV F3.size, hBC, hBT, hBLL, hbC, hbT⟩
  · simp only [List.length_append, List.length_singleton]
    rw [flatS_snoc]
    exact S3
  · simp only [List.length_append, List.length_singleton]
    have hfe := flatC_end s.calls i (s2.n - 1) (num (acc s.m a).2.2) s.calls.length sS.n rfl (by omega) 0
    rw [hKn] at K3
    rw [← hSn, ← hfe]
    exact K3
  · by_cases hji : j = i
    · subst hji
      refine ⟨_, idle_self hlt9 _ _ _ _ _ _ _, ?_⟩
      simp only [List.getD_eq_getElem?_getD, List.getElem?_set_self hgl, Option.getD_some]
      have ht := OpsAt.tail (n := l.length) hop
      exact hopw _ _ ht
    · obtain ⟨so', hid', hop'⟩ := hops j hj
      refine ⟨so', idle_other hid' (by omega) _ _ _ _ _ _ _, ?_⟩
      simp only [List.getD_eq_getElem?_getD, List.getElem?_set_ne (Ne.symm hji)] at hop' ⊢
      exact hopw _ _ hop'
  · by_cases hji : j = i
    · subst hji
      refine ⟨⟨tailA b off aC, (a :: l).length - 1, aC - 1⟩, Array.getElem?_setIfInBounds_self_of_lt (Array.getElem?_eq_some_iff.1 hcs).1, ?_⟩
      simp only [List.getD_eq_getElem?_getD, List.getElem?_set_self hgl, Option.getD_some]
      exact (RdA.tail hra).below hB3
    · obtain ⟨sa', hcs', hra'⟩ := hacc j hj
      refine ⟨sa', (Array.getElem?_setIfInBounds_ne (Ne.symm hji)).trans hcs', ?_⟩
      simp only [List.getD_eq_getElem?_getD, List.getElem?_set_ne (Ne.symm hji)] at hra' ⊢
      exact hra'.below hB3
  · simp only [List.length_set]; exact hlen
  · simp only [List.length_append, List.length_singleton]; omega
  · rw [len_acc]; exact hfew ar
end Go.Proofs.Ytjgbgjkjnlaloaa.Drivec
