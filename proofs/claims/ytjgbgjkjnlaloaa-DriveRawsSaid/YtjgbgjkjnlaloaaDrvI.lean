/- A run of accesses of threads: Raw, by contract. -/
import Derived.Test.YtjgbgjkjnlaloaaDrvH
import Derived.Test.YtjgbgjkjnlaloaaStoreC
namespace Go.Proofs.Ytjgbgjkjnlaloaa.Drivec
open Go.RowKit Go.Proofs.Ytjgbgjkjnlaloaa.Memc Go.Proofs.Ytjgbgjkjnlaloaa.Procc Go.Proofs.Ytjgbgjkjnlaloaa.Storec Go.Proofs.Ytjgbgjkjnlaloaa.Newc
set_option linter.unusedVariables false
set_option maxRecDepth 100000

theorem list_cell : (Try.prog.info? 51).map (fun i => (i.zero, i.size, i.bytes)) = some (some (.slice none 0 0), 1, 24) := by kernel_rfl
theorem opl_cell : (Try.prog.info? 79).map (fun i => (i.zero, i.size, i.bytes)) = some (some (.slice none 0 0), 1, 24) := by kernel_rfl
theorem op_cell : (Try.prog.info? 81).map (fun i => (i.zero, i.size, i.bytes)) = some (some (.agg #[.int .i64 0, .int .u32 0]), 2, 16) := by kernel_rfl
def nils (T : Nat) : Array Value := madeCells #[.slice none 0 0] (T * 1)
theorem run_mkL (T : Nat) (hT : T ≤ 8) (w : World) :
    (Instr.makeSlice 70 (.int .i64 T) (.int .i64 T)).run Try.prog w = .ok (.slice (some ⟨w.heap.size, 0, none⟩) T T) (w.alloc (.cells (nils T) 79)) := by
  obtain ⟨i0, hi0, hz0, hz1, hz2⟩ := info_parts opl_cell
  have hr := run_make (P := Try.prog) w 70 79 i0 _ Try.underlying70 hi0 hz0 .i64 .i64 T T (by omega) (Int.le_refl _) (by rw [hz2]; omega) (by omega)
  rw [hz1] at hr
  simp only [Int.toNat_natCast] at hr
  exact hr
def opz (n : Nat) : Array Value := madeCells #[.int .i64 0, .int .u32 0] (n * 2)
theorem run_mkO (n : Nat) (hn : n ≤ 1000) (w : World) :
    (Instr.makeSlice 79 (.int .i64 n) (.int .i64 n)).run Try.prog w = .ok (.slice (some ⟨w.heap.size, 0, none⟩) n n) (w.alloc (.cells (opz n) 81)) := by
  obtain ⟨i0, hi0, hz0, hz1, hz2⟩ := info_parts op_cell
  have hr := run_make (P := Try.prog) w 79 81 i0 _ Try.underlying79 hi0 hz0 .i64 .i64 n n (by omega) (Int.le_refl _) (by rw [hz2]; omega) (by omega)
  rw [hz1] at hr
  simp only [Int.toNat_natCast] at hr
  exact hr
theorem opz_at (n j : Nat) (hj : j < n) : (opz n)[0 + j * 2]? = some (.int .i64 0) ∧ (opz n)[0 + j * 2 + 1]? = some (.int .u32 0) := by
  have h1 : j * 2 < n * 2 := by omega
  have h2 : j * 2 + 1 < n * 2 := by omega
  have h3 : (j * 2 + 1) % 2 = 1 := by omega
  have h4 : (j * 2) % 2 = 0 := by omega
  simp [opz, madeCells, h1, h2, h3, h4]
theorem opsAt_made (w : World) (n : Nat) (hn : n ≤ 1000) : OpsAt (w.alloc (.cells (opz n) 81)) ⟨some ⟨w.heap.size, 0, none⟩, n, n⟩ n :=
  ⟨rfl, Nat.le_refl _, by show n ≤ maxLen; unfold maxLen; omega, fun _ => ⟨_, 0, _, rfl, Blk.new _ _ _, fun j hj => opz_at n j hj⟩⟩

theorem opsAt_made2 (w : World) (g j : Nat) (v : Value) (n : Nat) (hn : n ≤ 1000) : OpsAt ((w.setCell ⟨g, j, none⟩ v).alloc (.cells (opz n) 81)) ⟨some ⟨w.heap.size, 0, none⟩, n, n⟩ n :=
  ⟨rfl, Nat.le_refl _, by show n ≤ maxLen; unfold maxLen; omega, fun _ => ⟨_, 0, _, rfl, blk_at (by simp [World.setCell]), fun j hj => opz_at n j hj⟩⟩
/-- the slice s reads as the lists of accesses ls, in memory below B -/
def RdLA (w : World) (B : Nat) (s : Sl) (ls : List (List Acc)) : Prop :=
  s.n = ls.length ∧ s.n ≤ s.c ∧ s.c ≤ maxLen ∧ (0 < s.n → ∃ b off, s.A = some ⟨b, off, none⟩ ∧ b < B ∧ ∀ (i : Nat) (l : List Acc), ls[i]? = some l → ∃ sa : Sl, w.cell? ⟨b, off + i, none⟩ = some (.slice sa.A sa.n sa.c) ∧ RdA w B sa l)
theorem RdLA.below {w w' : World} {B : Nat} {s : Sl} {l : List (List Acc)} (h : RdLA w B s l) (hb : Below B w w') : RdLA w' B s l :=
  ⟨h.1, h.2.1, h.2.2.1, fun hn => by
    obtain ⟨b, off, e, hlt, hc⟩ := h.2.2.2 hn
    refine ⟨b, off, e, hlt, fun i x hx => ?_⟩
    obtain ⟨sa, h1, h2⟩ := hc i x hx
    exact ⟨sa, (hb.cell (p := ⟨b, _, none⟩) hlt).trans h1, h2.below hb⟩⟩

/-- what a copy of the list of lists comes to -/
def Cloned (w : World) (T : Nat) (vs : List Value) (e : Ending) (w' : World) : Prop :=
  ∃ (g lc : Nat) (cs : Array Value), e = .returned (.slice (some ⟨g, 0, none⟩) T lc) ∧ Blk w' g 51 cs ∧ w.heap.size ≤ g ∧ (∀ (i : Nat) (v : Value), vs[i]? = some v → cs[i]? = some v) ∧ Below w.heap.size w w'
set_option maxHeartbeats 2000000 in
/-- a copy of the list of lists -/
theorem clonel_c (w : World) (b off T c : Nat) (vs : List Value) (hT : vs.length = T) (hT8 : T ≤ 8) (h1 : 1 ≤ T) (hb : b < w.heap.size) (hc : ∀ (i : Nat) (v : Value), vs[i]? = some v → w.cell? ⟨b, off + i, none⟩ = some v) (ho : ∀ u ∈ vs, u.oneCell' = true) :
    Calls Try.prog 50 #[.slice (some ⟨b, off, none⟩) T c] w (Cloned w T vs) := by
  obtain ⟨i0, hi0, hz0, hz1, hz2⟩ := info_parts list_cell
  have qT : ∀ (w : World) (a : Option Addr) (n c n' c' : Nat), (binOp .eql 49 (.slice a n c) (.slice none n' c')).run Try.prog w = .ok (.bool a.isNone) w := fun w a n c n' c' => Lib.run_eql_slice_nil w _ _ a n c n' c' Try.underlying49
  have HN : ∀ o : Obj, Hid (∀ (j : Nat) (u : Value), vs[j]? = some u → (w.alloc o).cell? ((⟨b, off, none⟩ : Addr).add j) = some u) := fun o j u hj => by
    rw [Addr.add_lit]
    exact (World.cell?_alloc_lt w o _ hb).trans (hc j u hj)
  have HO := Lib.hid ho
  have HT := Lib.hid hT
  clear hc ho hT
  go_enter Try.func50, Try.ntmps50
  go_wp2_with (at_builtin; refine wpList_append_own _ rfl _ _ 49 rfl w.heap.size 51 i0 _ 1 24 Try.underlying49 hi0 hz0 hz1 hz2 rfl (by omega) (.slice (some ⟨w.heap.size, 0, none⟩) 0 0) 0 [] rfl (World.ownsRow_made w _ 0 (Nat.le_refl _) (Nat.zero_le _) (by simp)) ⟨b, off, none⟩ T c vs rfl (by have := HT.out; omega) (HN _).out HO.out (by unfold maxLen; omega) (by omega) (by simp) ?_; intro v' w1 hown1 hg1 _; have OW := Lib.hid hown1; have GR := Lib.hid hg1; clear hown1 hg1)
  go_ret
  obtain ⟨s, rfl, hr⟩ := row_sl OW.out
  rw [Nat.zero_add, List.nil_append] at hr
  obtain ⟨g, hA, hlo, hhi, hcell, hfz⟩ := hr.at_ h1
  obtain ⟨cs, hcs⟩ := hr.blk ⟨_, hA, rfl⟩
  have hsn := hr.n_.1
  obtain ⟨sA, sn, sc⟩ := s
  simp only at hA hsn
  subst hA
  subst hsn
  refine ⟨g, sc, cs, rfl, hcs, hlo, fun i v hv => ?_, ((Below.refl _ _).alloc (Nat.le_refl _) _).grown GR.out (by simp) (by simp [Value.ownBlock])⟩
  have hil : i < vs.length := (List.getElem?_eq_some_iff.1 hv).1
  have := (hcell i (by have := HT.out; omega)).trans hv
  rw [hcs.cell i] at this
  exact this

set_option maxHeartbeats 8000000 in
theorem raw_c (w : World) (B : Nat) (k : Int) (K T M : Nat) (b off c : Nat) (pA : Option Addr) (pn pc : Nat) (ls : List (List Acc)) (ps : List (Int × Int))
    (k1 : 1 ≤ k) (k2 : k ≤ 3) (a1 : 1 ≤ K) (a2 : K ≤ 64) (t1 : 1 ≤ T) (t2 : T ≤ 8) (m1 : 2 ≤ M) (m2 : M ≤ 64)
    (hl : RdLA w B ⟨some ⟨b, off, none⟩, T, c⟩ ls) (hle : ∀ x ∈ ls, x.length ≤ 1000) (hp : RdP w B ⟨pA, pn, pc⟩ ps) (hpn : ps.length ≤ 20000) (hB : B ≤ w.heap.size) :
    Calls Try.prog 28 #[.agg #[.int .i64 k, .int .i64 K, .int .i64 T, .int .i64 M], .slice (some ⟨b, off, none⟩) T c, .slice pA pn pc] w (Ran w B (runs ⟨newM k K T M, ls, [], []⟩ ps)) := by
  have hmf : ∀ (fn : Fn) (first cap : Array Value) (w : World), (Instr.makeFunc fn first cap).run Try.prog w = .ok (.func fn first cap) w := fun _ _ _ _ => rfl
  have hls : T = ls.length := hl.1
  obtain ⟨b', off', e, hbB, hcell⟩ := hl.2.2.2 (by show 0 < T; omega)
  injection e with e
  injection e with e1 e2
  subst e1
  subst e2
  obtain ⟨sas, hsl, hsas⟩ := list_choose (P := fun i (sa : Sl) => w.cell? ⟨b, off + i, none⟩ = some (.slice sa.A sa.n sa.c) ∧ RdA w B sa (ls.getD i [])) T (fun i hi => by
    have hx : ls[i]? = some ls[i] := List.getElem?_eq_getElem (by omega)
    obtain ⟨sa, h1, h2⟩ := hcell i _ hx
    exact ⟨sa, h1, by rw [getD_of hx]; exact h2⟩)
  have hget : ∀ i, i < T → ∃ sa, sas[i]? = some sa ∧ w.cell? ⟨b, off + i, none⟩ = some (.slice sa.A sa.n sa.c) ∧ RdA w B sa (ls.getD i []) := fun i hi => by
    have hx : sas[i]? = some sas[i] := List.getElem?_eq_getElem (by omega)
    exact ⟨_, hx, hsas i _ hx⟩
  have hlen2 : ∀ i, i < T → (ls.getD i []).length ≤ 1000 := fun i hi => by
    have hx : ls[i]? = some ls[i] := List.getElem?_eq_getElem (by omega)
    rw [getD_of hx]
    exact hle _ (List.getElem_mem _)
  have hlens : Lens w ⟨some ⟨b, off, none⟩, T, c⟩ (ls.map List.length) := ⟨by rw [List.length_map]; exact hls, hl.2.1, hl.2.2.1, (fun x hx => by obtain ⟨y, hy, rfl⟩ := List.mem_map.1 hx; have := hle y hy; unfold maxLen; omega), fun _ => ⟨b, off, rfl, by omega, fun i n hi => by
    rw [List.getElem?_map] at hi
    rcases hx : ls[i]? with _ | y
    · rw [hx] at hi; cases hi
    · rw [hx] at hi
      injection hi with hi
      obtain ⟨sa, h1, h2⟩ := hcell i y hx
      exact ⟨sa, h2.1.trans hi, h1⟩⟩⟩
  have hany : (ls.map List.length).any (fun x => decide (1000 < x)) = false := by
    rw [List.any_eq_false]
    intro x hx
    obtain ⟨y, hy, rfl⟩ := List.mem_map.1 hx
    have := hle y hy
    simp; omega
  have W0 : Hid (Below w.heap.size w ((w.alloc (.cells #[.int .i64 k, .int .i64 K, .int .i64 T, .int .i64 M] 36)).alloc (.cells #[.slice none 0 0, .slice none 0 0, .int .u64 0, .int .u64 0, .slice none 0 0, .slice none 0 0, .int .u64 0, .int .u64 0, .slice none 0 0, .slice none 0 0, .slice none 0 0] 54))) := Lib.hid (((Below.refl _ _).alloc (Nat.le_refl _) _).alloc (by simp) _)
  have X0 : Hid (Blk ((w.alloc (.cells #[.int .i64 k, .int .i64 K, .int .i64 T, .int .i64 M] 36)).alloc (.cells #[.slice none 0 0, .slice none 0 0, .int .u64 0, .int .u64 0, .slice none 0 0, .slice none 0 0, .int .u64 0, .int .u64 0, .slice none 0 0, .slice none 0 0, .slice none 0 0] 54)) w.heap.size 36 #[.int .i64 k, .int .i64 K, .int .i64 T, .int .i64 M]) := Lib.hid ((Blk.new _ _ _).alloc _)
  have Y0 : Hid (Blk ((w.alloc (.cells #[.int .i64 k, .int .i64 K, .int .i64 T, .int .i64 M] 36)).alloc (.cells #[.slice none 0 0, .slice none 0 0, .int .u64 0, .int .u64 0, .slice none 0 0, .slice none 0 0, .int .u64 0, .int .u64 0, .slice none 0 0, .slice none 0 0, .slice none 0 0] 54)) (w.heap.size + 1) 54 #[.slice none 0 0, .slice none 0 0, .int .u64 0, .int .u64 0, .slice none 0 0, .slice none 0 0, .int .u64 0, .int .u64 0, .slice none 0 0, .slice none 0 0, .slice none 0 0]) := Lib.hid (blk_at (by simp))
  have HLN := Lib.hid hlens
  have HAN := Lib.hid hany
  have HLS := Lib.hid (And.intro hls (And.intro hle (And.intro hget (And.intro hlen2 (And.intro hsl hsas)))))
  have HP := Lib.hid hp
  have HPN := Lib.hid hpn
  have hmk := fun W => run_mkL T t2 W
  have hbz : b < w.heap.size := by omega
  clear hlens hany hls hle hget hlen2 hsl hsas hp hpn hl hcell
  go_enter Try.func28, Try.ntmps28
  go_wp2_with (go_at_call 49; go_must (refine (mayrun_yes_Access _ k K T M ⟨some ⟨b, off, none⟩, T, c⟩ ⟨pA, pn, pc⟩ (ls.map List.length) ⟨⟨k1, k2⟩, ⟨by simp only; omega, by simp only; omega⟩, ⟨by simp only; omega, by simp only; omega⟩, ⟨by simp only; omega, by simp only; omega⟩⟩ (HLN.out.below W0.out) rfl HAN.out (by have h1 := HP.out.1; have h2 := HPN.out; simp only at h1; show pn ≤ 20000; omega)).mono ?_); rintro e w1 ⟨rfl, hb1⟩; go_must (have X1 := Lib.hid (X0.out.below hb1 X0.out.lt); have Y1 := Lib.hid (Y0.out.below hb1 Y0.out.lt); have W1 := Lib.hid (W0.out.trans (hb1.mono W0.out.size))); clear hb1)
  have TB : Hid (Blk (w1.alloc (.cells (nils T) 79)) w1.heap.size 79 (nils T)) := Lib.hid (Blk.new _ _ _)
  have XB := Lib.hid (X1.out.alloc (.cells (nils T) 79))
  have YB := Lib.hid (Y1.out.alloc (.cells (nils T) 79))
  have WB := Lib.hid (W1.out.alloc W1.out.size (.cells (nils T) 79))
  have hgO : Hid (w.heap.size + 2 ≤ w1.heap.size) := Lib.hid (by have := Y1.out.lt; omega)
  obtain ⟨gO, hgO'⟩ : ∃ g, w1.heap.size = g := ⟨_, rfl⟩
  generalize hV : w1.alloc (.cells (nils T) 79) = V at TB XB YB WB ⊢
  clear hV
  rw [hgO'] at TB hgO
  simp only [hgO']
  clear hgO' X0 Y0 W0 X1 Y1 W1
  have hgO2 := hgO.out
  go_loopw [22] (fun i wr => ∃ (j : Nat) (cc : Array Value), i = .int .i64 j ∧ j ≤ T ∧ Blk wr gO 79 cc ∧ cc.size = T ∧ (∀ m, m < j → ∃ q : Sl, cc[m]? = some (.slice q.A q.n q.c) ∧ OpsAt wr q (ls.getD m []).length) ∧ Only (fun g => g = gO) V wr) (fun i _ => T - (intOf i).toNat)
  case atStart => exact ⟨0, nils T, rfl, Nat.zero_le _, TB.out, by simp [nils, madeCells], fun m hm => absurd hm (Nat.not_lt_zero _), Only.refl _ _⟩
  case round =>
  obtain ⟨j, cc, rfl, hj, htb, hsz, hdone, hof⟩ := hrel
  by_cases hlt : j < T
  · obtain ⟨⟨aA, aN, aC⟩, hs1, hcq, hra⟩ := HLS.out.2.2.1 j hlt
    obtain ⟨n, hnE⟩ : ∃ n, n = (ls.getD j []).length := ⟨_, rfl⟩
    have haN : aN = n := by rw [hnE]; exact hra.1
    subst haN
    have hold := fun o => (Only.cell hof (Nat.lt_of_lt_of_le hbz WB.out.size) (show ¬ b = gO by omega)).trans (WB.out.cell (p := ⟨b, o, none⟩) hbz)
    have hcq := (hold (off + j)).trans hcq
    have hn1000 := HLS.out.2.2.2.1 j hlt
    rw [← hnE] at hn1000
    have HNE := Lib.hid hnE
    have HN1 := Lib.hid hn1000
    have hmo := fun W => run_mkO aN hn1000 W
    have hct := (htb.cell j).trans (Array.getElem?_eq_getElem (by omega))
    have hft := htb.frozen
    have hgz := htb.lt
    have i0 : (0 : Int) ≤ j := by omega
    have i1 : (j : Int) < T := by omega
    have i2 : (T : Int) ≤ 8 := by omega
    have HTB := Lib.hid htb
    have HD := Lib.hid (And.intro hdone hof)
    clear htb hdone hof hold hra hs1 hn1000 hnE
    go_wp2
    have T2 : Hid (Blk ((wr.setCell ⟨gO, j, none⟩ (.slice (some ⟨wr.heap.size, 0, none⟩) aN aN)).alloc (.cells (opz aN) 81)) gO 79 (cc.setIfInBounds j (.slice (some ⟨wr.heap.size, 0, none⟩) aN aN))) := Lib.hid ((HTB.out.set_ j (.slice (some ⟨wr.heap.size, 0, none⟩) aN aN)).alloc _)
    have O2 : Hid (Only (fun g => g = gO) V ((wr.setCell ⟨gO, j, none⟩ (.slice (some ⟨wr.heap.size, 0, none⟩) aN aN)).alloc (.cells (opz aN) 81))) := Lib.hid ((HD.out.2.set_ ⟨gO, j, none⟩ (.inl rfl) _).alloc _)
    have Q2 : Hid (OpsAt ((wr.setCell ⟨gO, j, none⟩ (.slice (some ⟨wr.heap.size, 0, none⟩) aN aN)).alloc (.cells (opz aN) 81)) ⟨some ⟨wr.heap.size, 0, none⟩, aN, aN⟩ aN) := Lib.hid (opsAt_made2 wr gO j _ aN HN1.out)
    have S2 : Hid (Only (fun g => g = gO) wr ((wr.setCell ⟨gO, j, none⟩ (.slice (some ⟨wr.heap.size, 0, none⟩) aN aN)).alloc (.cells (opz aN) 81))) := Lib.hid (((Only.refl (fun g => g = gO) wr).set_ ⟨gO, j, none⟩ (.inl rfl) _).alloc _)
    clear hcq hct hft
    generalize ((wr.setCell ⟨gO, j, none⟩ (.slice (some ⟨wr.heap.size, 0, none⟩) aN aN)).alloc (.cells (opz aN) 81)) = W2 at T2 O2 Q2 S2 ⊢
    go_roundw
    case rel =>
      refine ⟨j + 1, _, by go_num, by omega, T2.out, by rw [Array.size_setIfInBounds]; exact hsz, fun m hm => ?_, O2.out⟩
      by_cases hmj : m = j
      · subst hmj
        exact ⟨⟨some ⟨wr.heap.size, 0, none⟩, aN, aN⟩, Array.getElem?_setIfInBounds_self_of_lt (by omega), by rw [← HNE.out]; exact Q2.out⟩
      · obtain ⟨q, h1, h2⟩ := HD.out.1 m (by omega)
        exact ⟨q, (Array.getElem?_setIfInBounds_ne (Ne.symm hmj)).trans h1, h2.only S2.out (fun k cs hk e => Blk.ne hk HTB.out (by decide) e)⟩
    case measure => simp [intOf]; omega
  · have TBj := Lib.hid htb
    have HD := Lib.hid (And.intro hdone hof)
    have HJ : Hid (j = T) := Lib.hid (by omega)
    have hjT : j = T := HJ.out
    subst hjT
    have XR := Lib.hid (XB.out.only hof (Blk.ne XB.out TB.out (by decide)))
    have YR := Lib.hid (YB.out.only hof (Blk.ne YB.out TB.out (by decide)))
    have WR : Hid (Below w.heap.size w wr) := Lib.hid (WB.out.trans (hof.below WB.out.size (fun g hg => by omega)))
    have hxc := XR.out.cell
    have hbr : b < wr.heap.size := Nat.lt_of_lt_of_le hbz WR.out.size
    clear htb hdone hof hsz hj hlt
    go_wp2_with (first
      | (go_at_call 50; go_must (refine (clonel_c _ b off j c (sas.map (fun a => Value.slice a.A a.n a.c)) (by rw [List.length_map]; exact HLS.out.2.2.2.2.1) t2 t1 hbr (fun i v hv => by
        rw [List.getElem?_map] at hv
        rcases hx : sas[i]? with _ | a
        · rw [hx] at hv; cases hv
        · rw [hx] at hv
          injection hv with hv
          exact (WR.out.cell (p := ⟨b, off + i, none⟩) hbz).trans ((HLS.out.2.2.2.2.2 i a hx).1.trans (congrArg some hv))) (by rintro u hu; obtain ⟨a, _, rfl⟩ := List.mem_map.1 hu; rfl)).mono ?_); rintro e w4 ⟨gLL, lc, cs, rfl, hL4, hgg, hcs4, hb4⟩; go_must (have L4 := Lib.hid hL4; have G4 : Hid (wr.heap.size ≤ gLL) := Lib.hid hgg; have C4 := Lib.hid hcs4; have B4 := Lib.hid hb4; have T4 := Lib.hid (TBj.out.below hb4 TBj.out.lt); have X4 := Lib.hid (XR.out.below hb4 XR.out.lt); have Y4 := Lib.hid (YR.out.below hb4 YR.out.lt); have W4 := Lib.hid (WR.out.trans (hb4.mono WR.out.size)); have hx4 := X4.out.cell; have hx4l := X4.out.lt; have hy4l := Y4.out.lt); clear hL4 hgg hcs4 hb4 hxc)
      | (go_at_call 51;  have A5 := Lib.hid ((Below.refl w4.heap.size w4).alloc (Nat.le_refl _) (.cells #[.slice (some ⟨gLL, 0, none⟩) j lc] 49));  have T5 := Lib.hid (T4.out.below A5.out T4.out.lt);  have Y5 := Lib.hid (Y4.out.below A5.out Y4.out.lt);  have W5 := Lib.hid (W4.out.trans (A5.out.mono W4.out.size)); refine (run_c _ B w4.heap.size gLL lc k K j M pA pn pc j cs ls ps gO 0 k1 k2 a1 a2 t1 t2 m1 m2 ⟨Nat.le_refl _, by unfold maxLen; omega⟩ ⟨by omega, T5.out.lt⟩ (fun i hi => by
        obtain ⟨q, h1, h2⟩ := HD.out.1 i hi
        exact ⟨q, (T5.out.cell (0 + i)).trans (by rw [Nat.zero_add]; exact h1), h2.only (P := fun _ => False) (Only.of_below (B4.out.trans (A5.out.mono B4.out.size)) (Nat.le_refl _)) (fun _ _ _ h => h)⟩) HLS.out.1.symm HLS.out.2.1 (HP.out.below (W5.out.mono hB)) HPN.out (Blk.new _ _ _) (L4.out.below A5.out L4.out.lt) (by have h1 := G4.out; have h2 := WR.out.size; omega) (fun i hi => by
        obtain ⟨sa, h1, h2, h3⟩ := HLS.out.2.2.1 i hi
        exact ⟨sa, C4.out i _ (by rw [List.getElem?_map, h1]; rfl), h3.below (W5.out.mono hB)⟩) (Nat.le_trans hB W5.out.size)).mono ?_; rintro e w6 ⟨r, sS, sK, base, rfl, hS6, hK6, hE6, hF6⟩; go_must (have S6 := Lib.hid hS6; have K6 := Lib.hid hK6; have E6 := Lib.hid hE6; have F6 := Lib.hid hF6; have Y6 := Lib.hid (hF6.blk Y5.out (by decide)); have hy6 := Y6.out.cell; have hy6f := Y6.out.frozen); clear hS6 hK6 hE6 hF6))
    have OE : Hid (Only (fun g => g = w.heap.size + 1) w6 (((((((((((w6.setCell ⟨(w.heap.size + 1), 0, none⟩ (.slice sS.A sS.n sS.c)).setCell ⟨(w.heap.size + 1), 1, none⟩ (.slice sK.A sK.n sK.c)).setCell ⟨(w.heap.size + 1), 2, none⟩ (.int .u64 r.e)).setCell ⟨(w.heap.size + 1), 3, none⟩ (.int .u64 r.f)).setCell ⟨(w.heap.size + 1), 4, none⟩ (.slice r.L.A r.L.n r.L.c)).setCell ⟨(w.heap.size + 1), 5, none⟩ (.slice r.P.A r.P.n r.P.c)).setCell ⟨(w.heap.size + 1), 6, none⟩ (.int .u64 r.h)).setCell ⟨(w.heap.size + 1), 7, none⟩ (.int .u64 r.t)).setCell ⟨(w.heap.size + 1), 8, none⟩ (.slice r.K.A r.K.n r.K.c)).setCell ⟨(w.heap.size + 1), 9, none⟩ (.slice r.X.A r.X.n r.X.c)).setCell ⟨(w.heap.size + 1), 10, none⟩ (.slice r.S.A r.S.n r.S.c))) := Lib.hid ((Only.set_ (Only.set_ (Only.set_ (Only.set_ (Only.set_ (Only.set_ (Only.set_ (Only.set_ (Only.set_ (Only.set_ (Only.set_ (Only.refl (fun g => g = w.heap.size + 1) w6) ⟨(w.heap.size + 1), 0, none⟩ (.inl rfl) (.slice sS.A sS.n sS.c)) ⟨(w.heap.size + 1), 1, none⟩ (.inl rfl) (.slice sK.A sK.n sK.c)) ⟨(w.heap.size + 1), 2, none⟩ (.inl rfl) (.int .u64 r.e)) ⟨(w.heap.size + 1), 3, none⟩ (.inl rfl) (.int .u64 r.f)) ⟨(w.heap.size + 1), 4, none⟩ (.inl rfl) (.slice r.L.A r.L.n r.L.c)) ⟨(w.heap.size + 1), 5, none⟩ (.inl rfl) (.slice r.P.A r.P.n r.P.c)) ⟨(w.heap.size + 1), 6, none⟩ (.inl rfl) (.int .u64 r.h)) ⟨(w.heap.size + 1), 7, none⟩ (.inl rfl) (.int .u64 r.t)) ⟨(w.heap.size + 1), 8, none⟩ (.inl rfl) (.slice r.K.A r.K.n r.K.c)) ⟨(w.heap.size + 1), 9, none⟩ (.inl rfl) (.slice r.X.A r.X.n r.X.c)) ⟨(w.heap.size + 1), 10, none⟩ (.inl rfl) (.slice r.S.A r.S.n r.S.c)))
    have YE : Hid (Blk (((((((((((w6.setCell ⟨(w.heap.size + 1), 0, none⟩ (.slice sS.A sS.n sS.c)).setCell ⟨(w.heap.size + 1), 1, none⟩ (.slice sK.A sK.n sK.c)).setCell ⟨(w.heap.size + 1), 2, none⟩ (.int .u64 r.e)).setCell ⟨(w.heap.size + 1), 3, none⟩ (.int .u64 r.f)).setCell ⟨(w.heap.size + 1), 4, none⟩ (.slice r.L.A r.L.n r.L.c)).setCell ⟨(w.heap.size + 1), 5, none⟩ (.slice r.P.A r.P.n r.P.c)).setCell ⟨(w.heap.size + 1), 6, none⟩ (.int .u64 r.h)).setCell ⟨(w.heap.size + 1), 7, none⟩ (.int .u64 r.t)).setCell ⟨(w.heap.size + 1), 8, none⟩ (.slice r.K.A r.K.n r.K.c)).setCell ⟨(w.heap.size + 1), 9, none⟩ (.slice r.X.A r.X.n r.X.c)).setCell ⟨(w.heap.size + 1), 10, none⟩ (.slice r.S.A r.S.n r.S.c)) (w.heap.size + 1) 54 #[.slice sS.A sS.n sS.c, .slice sK.A sK.n sK.c, .int .u64 r.e, .int .u64 r.f, .slice r.L.A r.L.n r.L.c, .slice r.P.A r.P.n r.P.c, .int .u64 r.h, .int .u64 r.t, .slice r.K.A r.K.n r.K.c, .slice r.X.A r.X.n r.X.c, .slice r.S.A r.S.n r.S.c]) := Lib.hid (by have h_ := (Blk.set_ (Blk.set_ (Blk.set_ (Blk.set_ (Blk.set_ (Blk.set_ (Blk.set_ (Blk.set_ (Blk.set_ (Blk.set_ (Blk.set_ Y6.out 0 (.slice sS.A sS.n sS.c)) 1 (.slice sK.A sK.n sK.c)) 2 (.int .u64 r.e)) 3 (.int .u64 r.f)) 4 (.slice r.L.A r.L.n r.L.c)) 5 (.slice r.P.A r.P.n r.P.c)) 6 (.int .u64 r.h)) 7 (.int .u64 r.t)) 8 (.slice r.K.A r.K.n r.K.c)) 9 (.slice r.X.A r.X.n r.X.c)) 10 (.slice r.S.A r.S.n r.S.c)); simpa only [List.setIfInBounds_toArray, List.set_cons_zero, List.set_cons_succ] using h_)
    clear hy6 hy6f hx4 hx4l hy4l
    generalize (((((((((((w6.setCell ⟨(w.heap.size + 1), 0, none⟩ (.slice sS.A sS.n sS.c)).setCell ⟨(w.heap.size + 1), 1, none⟩ (.slice sK.A sK.n sK.c)).setCell ⟨(w.heap.size + 1), 2, none⟩ (.int .u64 r.e)).setCell ⟨(w.heap.size + 1), 3, none⟩ (.int .u64 r.f)).setCell ⟨(w.heap.size + 1), 4, none⟩ (.slice r.L.A r.L.n r.L.c)).setCell ⟨(w.heap.size + 1), 5, none⟩ (.slice r.P.A r.P.n r.P.c)).setCell ⟨(w.heap.size + 1), 6, none⟩ (.int .u64 r.h)).setCell ⟨(w.heap.size + 1), 7, none⟩ (.int .u64 r.t)).setCell ⟨(w.heap.size + 1), 8, none⟩ (.slice r.K.A r.K.n r.K.c)).setCell ⟨(w.heap.size + 1), 9, none⟩ (.slice r.X.A r.X.n r.X.c)).setCell ⟨(w.heap.size + 1), 10, none⟩ (.slice r.S.A r.S.n r.S.c)) = W8 at OE YE ⊢
    have hpk : ∀ k, k = w.heap.size + 1 → ∃ t cs, Blk w6 k t cs ∧ t = 54 := by
      rintro k rfl
      exact ⟨_, _, Y6.out, rfl⟩
    have S8 : Hid (Row W8 base 65 8 sS _ _) := Lib.hid (S6.out.only OE.out (fun g hg h => by obtain ⟨t, cs, hb, ht⟩ := hpk g h; subst ht; exact S6.out.ne hb (by decide) g hg rfl))
    have K8 : Hid (Row W8 base 67 7 sK _ _) := Lib.hid (K6.out.only OE.out (fun g hg h => by obtain ⟨t, cs, hb, ht⟩ := hpk g h; subst ht; exact K6.out.ne hb (by decide) g hg rfl))
    have E8 := Lib.hid (E6.out.only OE.out (fun ar hl ad had h => by obtain ⟨t, cs, hb, ht⟩ := hpk _ h; subst ht; exact E6.out.ne hb (by decide) (by decide) ar hl ad had rfl))
    have F8 : Hid (Fr B w W8) := Lib.hid (Fr.new ((Fr.of_below (W4.out.trans ((((Below.refl w4.heap.size w4).alloc (Nat.le_refl _) (.cells #[.slice (some ⟨gLL, 0, none⟩) j lc] 49))).mono W4.out.size))).trans F6.out) (OE.out.mono (fun k hk => .inr (by omega))))
    have hy8 := YE.out.cell
    refine bodyPost_ret (v := .tuple #[.agg #[.slice sS.A sS.n sS.c, .slice sK.A sK.n sK.c, .int .u64 r.e, .int .u64 r.f, .slice r.L.A r.L.n r.L.c, .slice r.P.A r.P.n r.P.c, .int .u64 r.h, .int .u64 r.t, .slice r.K.A r.K.n r.K.c, .slice r.X.A r.X.n r.X.c, .slice r.S.A r.S.n r.S.c], .int .i64 0]) ?_ rfl ?_
    · simp [results, Try.results28, go_sem, hy8]
    · exact ⟨r, sS, sK, base, rfl, S8.out, K8.out, E8.out, F8.out⟩
end Go.Proofs.Ytjgbgjkjnlaloaa.Drivec
