/- Whether two traces are the same, by the document's answer: those that tell the same are. -/
import Derived.Test.YtjgbgjkjnlaloaaSteps
import Derived.Test.YtjgbgjkjnlaloaaRefD
import Derived.Deep.QuietTactic
import Derived.BigQuiet
namespace Go.Proofs.Ytjgbgjkjnlaloaa.Machc
open Go.RowKit Go.Proofs.Ytjgbgjkjnlaloaa.Memc Go.Proofs.Ytjgbgjkjnlaloaa.Refc
set_option linter.unusedVariables false
set_option maxRecDepth 100000

/-- a call of a trace -/
structure Ck where
  th : Int
  kd : Int
  vl : Int
  fr : Int
  to : Int
  cd : Int
  ou : Int
def Ck.cells (c : Ck) : List Value := [.int .i64 c.th, .int .i64 c.kd, .int .u32 c.vl, .int .i64 c.fr, .int .i64 c.to, .int .i64 c.cd, .int .u32 c.ou]
/-- the slice reads as the calls l, in memory below B -/
def RdK (w : World) (B : Nat) (s : Sl) (l : List Ck) : Prop :=
  s.n = l.length ∧ s.n ≤ s.c ∧ s.c ≤ maxLen ∧
  (0 < s.n → ∃ b off, s.A = some ⟨b, off, none⟩ ∧ b < B ∧ ∀ (i : Nat) (x : Ck), l[i]? = some x → ∀ (j : Nat) (v : Value), x.cells[j]? = some v → w.cell? ⟨b, off + i * 7 + j, none⟩ = some v)
theorem RdK.below {w w' : World} {B : Nat} {s : Sl} {l : List Ck} (h : RdK w B s l) (hb : Below B w w') : RdK w' B s l :=
  ⟨h.1, h.2.1, h.2.2.1, fun hn => by
    obtain ⟨b, off, e, hlt, hc⟩ := h.2.2.2 hn
    exact ⟨b, off, e, hlt, fun i x hx j v hv => (hb.cell (p := ⟨b, off + i * 7 + j, none⟩) hlt).trans (hc i x hx j v hv)⟩⟩
theorem RdK.more {w : World} {B B' : Nat} {s : Sl} {l : List Ck} (h : RdK w B s l) (hB : B ≤ B') : RdK w B' s l :=
  ⟨h.1, h.2.1, h.2.2.1, fun hn => by
    obtain ⟨b, off, e, hlt, hc⟩ := h.2.2.2 hn
    exact ⟨b, off, e, by omega, hc⟩⟩
theorem RdK.step {w : World} {B b off n c k : Nat} {l : List Ck} {x : Ck} (h : RdK w B ⟨some ⟨b, off, none⟩, n, c⟩ l) (hx : l[k]? = some x) :
    w.cell? ⟨b, off + k * 7, none⟩ = some (.int .i64 x.th) ∧ w.cell? ⟨b, off + k * 7 + 1, none⟩ = some (.int .i64 x.kd) ∧ w.cell? ⟨b, off + k * 7 + 2, none⟩ = some (.int .u32 x.vl) ∧ w.cell? ⟨b, off + k * 7 + 3, none⟩ = some (.int .i64 x.fr) ∧
    w.cell? ⟨b, off + k * 7 + 4, none⟩ = some (.int .i64 x.to) ∧ w.cell? ⟨b, off + k * 7 + 5, none⟩ = some (.int .i64 x.cd) ∧ w.cell? ⟨b, off + k * 7 + 6, none⟩ = some (.int .u32 x.ou) := by
  obtain ⟨b', off', e, _, hc⟩ := h.2.2.2 (by show 0 < n; have := h.1; simp only at this; have := (List.getElem?_eq_some_iff.1 hx).1; omega)
  injection e with e
  injection e with e1 e2
  subst e1
  subst e2
  exact ⟨hc k x hx 0 _ rfl, hc k x hx 1 _ rfl, hc k x hx 2 _ rfl, hc k x hx 3 _ rfl, hc k x hx 4 _ rfl, hc k x hx 5 _ rfl, hc k x hx 6 _ rfl⟩
theorem below_drawn {n : Nat} {w w' : World} (h : Below n w w') (k : Nat) : Below n w (w'.drewN k) := ⟨h.1, h.2, h.3, h.4, h.5⟩

set_option maxHeartbeats 4000000 in
theorem same3_yes (w : World) (r q : R) (m : M) (sS sK qS qK : Sl) (ss : List St) (ks : List Ck) (hm : Rm w w.heap.size r m) (hm' : Rm w w.heap.size q m)
    (hs : RdS w w.heap.size sS ss) (hs' : RdS w w.heap.size qS ss) (hk : RdK w w.heap.size sK ks) (hk' : RdK w w.heap.size qK ks) :
    Calls Try.prog 30 #[.agg #[.slice sS.A sS.n sS.c, .slice sK.A sK.n sK.c, .int .u64 r.e, .int .u64 r.f, .slice r.L.A r.L.n r.L.c, .slice r.P.A r.P.n r.P.c, .int .u64 r.h, .int .u64 r.t, .slice r.K.A r.K.n r.K.c, .slice r.X.A r.X.n r.X.c, .slice r.S.A r.S.n r.S.c], .agg #[.slice qS.A qS.n qS.c, .slice qK.A qK.n qK.c, .int .u64 q.e, .int .u64 q.f, .slice q.L.A q.L.n q.L.c, .slice q.P.A q.P.n q.P.c, .int .u64 q.h, .int .u64 q.t, .slice q.K.A q.K.n q.K.c, .slice q.X.A q.X.n q.X.c, .slice q.S.A q.S.n q.S.c]] w (Tells w true) := by
  obtain ⟨sSA, sn, sSc⟩ := sS
  obtain ⟨qSA, qSn, qSc⟩ := qS
  obtain ⟨sKA, kn, sKc⟩ := sK
  obtain ⟨qKA, qKn, qKc⟩ := qK
  have e1 : qSn = sn := hs'.1.trans hs.1.symm
  have e2 : qKn = kn := hk'.1.trans hk.1.symm
  subst e1 e2
  change Calls Try.prog 30 #[.agg #[.slice sSA qSn sSc, .slice sKA qKn sKc, .int .u64 r.e, .int .u64 r.f, .slice r.L.A r.L.n r.L.c, .slice r.P.A r.P.n r.P.c, .int .u64 r.h, .int .u64 r.t, .slice r.K.A r.K.n r.K.c, .slice r.X.A r.X.n r.X.c, .slice r.S.A r.S.n r.S.c], .agg #[.slice qSA qSn qSc, .slice qKA qKn qKc, .int .u64 q.e, .int .u64 q.f, .slice q.L.A q.L.n q.L.c, .slice q.P.A q.P.n q.P.c, .int .u64 q.h, .int .u64 q.t, .slice q.K.A q.K.n q.K.c, .slice q.X.A q.X.n q.X.c, .slice q.S.A q.S.n q.S.c]] w (Tells w true)
  have hsl := hs.1
  have hkl := hk.1
  simp only at hsl hkl
  have hmx1 : (qSn : Int) ≤ 9223372036854775807 := by have h1 := hs.2.1; have h2 := hs.2.2.1; simp only at h1 h2; unfold maxLen at h2; omega
  have hmx2 : (qKn : Int) ≤ 9223372036854775807 := by have h1 := hk.2.1; have h2 := hk.2.2.1; simp only at h1 h2; unfold maxLen at h2; omega
  have HM := Lib.hid hm
  have HM' := Lib.hid hm'
  have HS := Lib.hid hs
  have HS' := Lib.hid hs'
  have HK := Lib.hid hk
  have HK' := Lib.hid hk'
  have HSL := Lib.hid hsl
  have HKL := Lib.hid hkl
  clear hm hm' hs hs' hk hk' hsl hkl
  have X0 : Hid (Blk ((w.alloc (.cells #[.slice sSA qSn sSc, .slice sKA qKn sKc, .int .u64 r.e, .int .u64 r.f, .slice r.L.A r.L.n r.L.c, .slice r.P.A r.P.n r.P.c, .int .u64 r.h, .int .u64 r.t, .slice r.K.A r.K.n r.K.c, .slice r.X.A r.X.n r.X.c, .slice r.S.A r.S.n r.S.c] 54)).alloc (.cells #[.slice qSA qSn qSc, .slice qKA qKn qKc, .int .u64 q.e, .int .u64 q.f, .slice q.L.A q.L.n q.L.c, .slice q.P.A q.P.n q.P.c, .int .u64 q.h, .int .u64 q.t, .slice q.K.A q.K.n q.K.c, .slice q.X.A q.X.n q.X.c, .slice q.S.A q.S.n q.S.c] 54)) w.heap.size 54 #[.slice sSA qSn sSc, .slice sKA qKn sKc, .int .u64 r.e, .int .u64 r.f, .slice r.L.A r.L.n r.L.c, .slice r.P.A r.P.n r.P.c, .int .u64 r.h, .int .u64 r.t, .slice r.K.A r.K.n r.K.c, .slice r.X.A r.X.n r.X.c, .slice r.S.A r.S.n r.S.c]) := Lib.hid ((blk_at rfl).alloc _)
  have Y0 : Hid (Blk ((w.alloc (.cells #[.slice sSA qSn sSc, .slice sKA qKn sKc, .int .u64 r.e, .int .u64 r.f, .slice r.L.A r.L.n r.L.c, .slice r.P.A r.P.n r.P.c, .int .u64 r.h, .int .u64 r.t, .slice r.K.A r.K.n r.K.c, .slice r.X.A r.X.n r.X.c, .slice r.S.A r.S.n r.S.c] 54)).alloc (.cells #[.slice qSA qSn qSc, .slice qKA qKn qKc, .int .u64 q.e, .int .u64 q.f, .slice q.L.A q.L.n q.L.c, .slice q.P.A q.P.n q.P.c, .int .u64 q.h, .int .u64 q.t, .slice q.K.A q.K.n q.K.c, .slice q.X.A q.X.n q.X.c, .slice q.S.A q.S.n q.S.c] 54)) (w.heap.size + 1) 54 #[.slice qSA qSn qSc, .slice qKA qKn qKc, .int .u64 q.e, .int .u64 q.f, .slice q.L.A q.L.n q.L.c, .slice q.P.A q.P.n q.P.c, .int .u64 q.h, .int .u64 q.t, .slice q.K.A q.K.n q.K.c, .slice q.X.A q.X.n q.X.c, .slice q.S.A q.S.n q.S.c]) := Lib.hid (blk_at (by simp))
  have B0 : Hid (Below w.heap.size w ((w.alloc (.cells #[.slice sSA qSn sSc, .slice sKA qKn sKc, .int .u64 r.e, .int .u64 r.f, .slice r.L.A r.L.n r.L.c, .slice r.P.A r.P.n r.P.c, .int .u64 r.h, .int .u64 r.t, .slice r.K.A r.K.n r.K.c, .slice r.X.A r.X.n r.X.c, .slice r.S.A r.S.n r.S.c] 54)).alloc (.cells #[.slice qSA qSn qSc, .slice qKA qKn qKc, .int .u64 q.e, .int .u64 q.f, .slice q.L.A q.L.n q.L.c, .slice q.P.A q.P.n q.P.c, .int .u64 q.h, .int .u64 q.t, .slice q.K.A q.K.n q.K.c, .slice q.X.A q.X.n q.X.c, .slice q.S.A q.S.n q.S.c] 54))) := Lib.hid (((Below.refl _ _).alloc (Nat.le_refl _) _).alloc (by simp) _)
  go_enter Try.func30, Try.ntmps30
  have hx := X0.out.cell
  have hy := Y0.out.cell
  have hmr := fun (W : World) (h : Below w.heap.size w W) => HM.out.below h
  go_wp2_with (go_at_call 19; (with_reducible refine (same_yes _ w.heap.size w.heap.size r q m (HM.out.below B0.out) B0.out.size (HM'.out.below B0.out) B0.out.size).mono ?_); rintro e w1 ⟨rfl, hb1⟩; go_must (have X1 := Lib.hid (X0.out.below hb1 X0.out.lt); have Y1 := Lib.hid (Y0.out.below hb1 Y0.out.lt); have B1 := Lib.hid (B0.out.trans (hb1.mono B0.out.size))); clear hb1 hx hy hmr X0 Y0 B0)
  go_loopw [5] (fun i wr => ∃ k : Nat, i = .int .i64 k ∧ k ≤ qSn ∧ Below w1.heap.size w1 wr) (fun i _ => qSn - (intOf i).toNat)
  case atStart => exact ⟨0, rfl, Nat.zero_le _, Below.refl _ _⟩
  case round =>
  obtain ⟨k, rfl, hk, hbw⟩ := hrel
  have hxx := (X1.out.below hbw X1.out.lt).cell
  have hyy := (Y1.out.below hbw Y1.out.lt).cell
  have W2 := Lib.hid hbw
  have HKLE := Lib.hid hk
  clear hbw hk
  by_cases hlt : k < qSn
  · obtain ⟨x, hx⟩ : ∃ x, ss[k]? = some x := ⟨_, List.getElem?_eq_getElem (by have := HSL.out; omega)⟩
    obtain ⟨bS, oS, e, hbS, _⟩ := HS.out.2.2.2.2 (by show 0 < qSn; omega)
    simp only at e; subst e
    obtain ⟨bQ, oQ, e, hbQ, _⟩ := HS'.out.2.2.2.2 (by show 0 < qSn; omega)
    simp only at e; subst e
    have BW := Lib.hid (B1.out.trans (W2.out.mono B1.out.size))
    obtain ⟨a0, a1, a2, a3, a4, a5, a6, a7⟩ := (HS.out.below BW.out).step hx
    obtain ⟨c0, c1, c2, c3, c4, c5, c6, c7⟩ := (HS'.out.below BW.out).step hx
    have k0 : (0 : Int) ≤ k := by omega
    have k1 : (k : Int) < qSn := by omega
    clear hx
    go_wp2
    go_quiet (fail)
    go_wp2
    go_roundw
    case rel => exact ⟨k + 1, by go_num, by omega, below_drawn W2.out _⟩
    case measure => simp [intOf]; omega
  · have k1 : ¬ (k : Int) < qSn := by omega
    have hke : k = qSn := by have := HKLE.out; omega
    go_wp2
    clear hxx hyy k1 hlt
    go_loopw [6] (fun i wv => ∃ k : Nat, i = .int .i64 k ∧ k ≤ qKn ∧ Below w1.heap.size w1 wv) (fun i _ => qKn - (intOf i).toNat)
    case atStart => exact ⟨0, rfl, Nat.zero_le _, W2.out⟩
    case round =>
    obtain ⟨j, rfl, hj, hbw⟩ := hrel
    have hxx := (X1.out.below hbw X1.out.lt).cell
    have hyy := (Y1.out.below hbw Y1.out.lt).cell
    have W3 := Lib.hid hbw
    have HJLE := Lib.hid hj
    clear hbw hj
    by_cases hlt : j < qKn
    · obtain ⟨x, hx⟩ : ∃ x, ks[j]? = some x := ⟨_, List.getElem?_eq_getElem (by have := HKL.out; omega)⟩
      obtain ⟨bS, oS, e, hbS, _⟩ := HK.out.2.2.2 (by show 0 < qKn; omega)
      simp only at e; subst e
      obtain ⟨bQ, oQ, e, hbQ, _⟩ := HK'.out.2.2.2 (by show 0 < qKn; omega)
      simp only at e; subst e
      have BW := Lib.hid (B1.out.trans (W3.out.mono B1.out.size))
      obtain ⟨a0, a1, a2, a3, a4, a5, a6⟩ := (HK.out.below BW.out).step hx
      obtain ⟨c0, c1, c2, c3, c4, c5, c6⟩ := (HK'.out.below BW.out).step hx
      have k0 : (0 : Int) ≤ j := by omega
      have k1 : (j : Int) < qKn := by omega
      clear hx
      go_wp2
      go_quiet (fail)
      go_wp2
      go_roundw
      case rel => exact ⟨j + 1, by go_num, by omega, below_drawn W3.out _⟩
      case measure => simp [intOf]; omega
    · have k1 : ¬ (j : Int) < qKn := by omega
      go_wp2
      go_ret
      exact ⟨rfl, B1.out.trans (W3.out.mono B1.out.size)⟩

end Go.Proofs.Ytjgbgjkjnlaloaa.Machc
