/- A part of the proof. -/
import Derived.StillTailTactics
import Derived.Deep.QuietTactic
import Derived.BigQuiet
import Derived.Test.YtffppdcpiieapaaGreatP15
import Derived.Test.YtffppdcpiieapaaGreatP16
import Derived.Test.YtffppdcpiieapaaGreatP19
import Derived.Test.YtffppdcpiieapaaGreatP20
import Derived.Test.YtffppdcpiieapaaGreatP21
namespace Go.Proofs.YtffppdcpiieapaaGreat.Machc
open Go.RowKit Memc Newc Drivec Procc Refc
set_option linter.unusedVariables false
set_option maxRecDepth 100000

theorem RdLO.lens {w : World} {B : Nat} {s : Sl} {ls : List (List (Int × Int))} (h : RdLO w B s ls) (hB : B <= w.heap.size) : Lens w s (ls.map List.length) := by
 have hx : ∀ x ∈ ls, x.length <= maxLen := by
   intro x hx
   obtain ⟨i, hi, rfl⟩ := List.getElem_of_mem hx
   obtain ⟨b, off, _, _, hc⟩ := h.2.2.2 (by rw [h.1]; omega)
   obtain ⟨sa, _, h2⟩ := hc i _ (List.getElem?_eq_getElem hi)
   have h3 := h2.1
   have h4 := h2.2.1
   have h5 := h2.2.2.1
   omega
 refine ⟨by rw [List.length_map]; exact h.1, h.2.1, h.2.2.1, (fun x hx' => by obtain ⟨y, hy, rfl⟩ := List.mem_map.1 hx'; exact hx y hy), fun hn => ?_⟩
 obtain ⟨b, off, e, hlt, hc⟩ := h.2.2.2 hn
 refine ⟨b, off, e, Nat.lt_of_lt_of_le hlt hB, fun i n hi => ?_⟩
 rw [List.getElem?_map] at hi
 rcases hx : ls[i]? with _ | y
 · rw [hx] at hi; cases hi
 · rw [hx] at hi
   injection hi with hi
   obtain ⟨sa, h1, h2⟩ := hc i y hx
   exact ⟨sa, h2.1.trans hi, h1⟩
def mostN : List Nat -> Nat -> Nat
 | [], m => m
 | n :: ns, m => mostN ns (if m < n then n else m)
theorem most_len : ∀ (ns : List Nat) (m : Nat), (∀ y ∈ ns, y <= maxLen) -> m <= maxLen -> mostN ns m <= maxLen
 | [], m, _, h => h
 | n :: ns, m, h, hm => most_len ns _ (fun y hy => h y (List.mem_cons_of_mem _ hy)) (by split; exact h n (List.mem_cons_self ..); exact hm)
theorem most_le : ∀ (ns : List Nat) (m : Nat), mostN ns m <= 1000 ↔ m <= 1000 /\ ∀ y ∈ ns, y <= 1000
 | [], m => by simp [mostN]
 | n :: ns, m => by
   show mostN ns (if m < n then n else m) <= 1000 ↔ _
   rw [most_le ns _]
   constructor
   · rintro ⟨h1, h2⟩
     split at h1
     · exact ⟨by omega, fun y hy => by rcases List.mem_cons.1 hy with rfl | hy; exact h1; exact h2 y hy⟩
     · exact ⟨h1, fun y hy => by rcases List.mem_cons.1 hy with rfl | hy; omega; exact h2 y hy⟩
   · rintro ⟨h1, h2⟩
     refine ⟨?_, fun y hy => h2 y (List.mem_cons_of_mem _ hy)⟩
     split
     · exact h2 n (List.mem_cons_self ..)
     · exact h1
theorem most_snoc {ns : List Nat} {j n : Nat} (h : ns[j]? = some n) : mostN (ns.take (j + 1)) 0 = if mostN (ns.take j) 0 < n then n else mostN (ns.take j) 0 := by
 rw [List.take_add_one, h]
 show mostN (ns.take j ++ [n]) 0 = _
 have : ∀ (l : List Nat) (m : Nat), mostN (l ++ [n]) m = if mostN l m < n then n else mostN l m := by
   intro l
   induction l with
   | nil => intro m; rfl
   | cons x l ih => intro m; exact ih _
 exact this _ _
set_option maxHeartbeats 2000000 in
theorem longest_c (w : World) (sA : Option Addr) (sn sc : Nat) (ns : List Nat) (h : Lens w ⟨sA, sn, sc⟩ ns) :
   Calls Tryz.prog 45 #[.slice sA sn sc] w fun e w' => e = .returned (.int .i64 (mostN ns 0)) /\ w = w' := by
 have HLN := lh h
 have hsc := h.2.1
 have hscm := h.2.2.1
 simp only at hsc hscm
 have hsn2 : (sn : Int) <= 9223372036854775807 := by unfold maxLen at hscm; omega
 clear h hsc hscm
 go_enter Tryz.func45, Tryz.ntmps45
 go_wp2
 go_loopw [3, 4] (fun x i wr => ∃ j : Nat, x = .int .i64 (mostN (ns.take j) 0) /\ i = .int .i64 j /\ j <= sn /\ wr = w) (fun _ i _ => sn - (intOf i).toNat)
 case atStart => exact ⟨0, rfl, rfl, Nat.zero_le _, rfl⟩
 case round =>
 obtain ⟨j, rfl, rfl, hj, rfl⟩ := hrel
 have i0 : (0 : Int) <= j := Int.natCast_nonneg _
 have hsn := HLN.out.1
 simp only at hsn
 by_cases hlt : j < sn
 · obtain ⟨b, off, hA, hbB, hcc⟩ := HLN.out.2.2.2.2 (by show 0 < sn; omega)
   simp only at hA
   subst hA
   obtain ⟨n, hn⟩ : ∃ n, ns[j]? = some n := ⟨_, List.getElem?_eq_getElem (by omega)⟩
   obtain ⟨q, hqn, hq1⟩ := hcc j n hn
   have i1 : (j : Int) < sn := by omega
   have HTK := lh (most_snoc hn)
   generalize hm : mostN (ns.take j) 0 = m
   have m0 : (0 : Int) <= m := Int.natCast_nonneg _
   have HM := lh hm
   clear hcc hn hsn hm
   by_cases hgt : m < n
   · have hgt' : (m : Int) < q.n := by omega
     go_wp2
     go_roundw
     case rel => exact ⟨j + 1, by rw [HTK.out, HM.out, if_pos hgt], by go_num, hlt, trivial⟩
     case measure => simp [intOf]; omega
   · have hgt' : ¬ (m : Int) < q.n := by omega
     go_wp2
     go_roundw
     case rel => exact ⟨j + 1, by rw [HTK.out, HM.out, if_neg hgt], by go_num, hlt, trivial⟩
     case measure => simp [intOf]; omega
 · obtain rfl : j = sn := by omega
   rw [List.take_of_length_le (show ns.length <= j by omega)]
   have i1 : ¬ (j : Int) < j := by omega
   clear hsn
   go_wp2
   go_ret
   exact ⟨rfl, rfl⟩
def DocA (k : Int) (K T M : Nat) (Z : Mac) (G : FS -> Prop) : Prop := ∀ f, G f -> ¬ f.pc = 0 -> ∀ (W : World) (q : Sl), Rd W W.heap.size q f.seen -> Calls Tryz.prog 59 #[.agg #[.int .i64 k, .int .i64 K, .int .i64 T, .int .i64 M], .agg (f.v q).toArray] W fun e W' => e = .returned (.agg #[.int .i64 (Z.ask f).d, .int .i64 (Z.ask f).ar, .int .i64 (Z.ask f).at_, .int .u64 (Z.ask f).old, .int .u64 (Z.ask f).new]) /\ Below W.heap.size W W'
def DocT (k : Int) (K T M : Nat) (Z : Mac) (G : FS -> Prop) : Prop := ∀ f, G f -> ¬ f.pc = 0 -> ∀ (W : World) (q : Sl) (was : Int) (dn : Bool), 0 <= was -> was <= 18446744073709551615 -> Rd W W.heap.size q f.seen -> Calls Tryz.prog 61 #[.agg #[.int .i64 k, .int .i64 K, .int .i64 T, .int .i64 M], .agg (f.v q).toArray, .int .u64 was, .bool dn] W fun e W' => ∃ q' : Sl, e = .returned (.agg (((Z.tell f was dn)).v q').toArray) /\ Rd W' W'.heap.size q' (Z.tell f was dn).seen /\ Below W.heap.size W W' /\ ∀ b, b < W.heap.size -> OffQ q b -> OffQ q' b
def DocB (k : Int) (K T M : Nat) (Z : Mac) (ok : Int -> Int -> Int -> Int -> Prop) : Prop := ∀ (i kd vl d : Int), ok i kd vl d -> 0 <= d -> d <= 4294967295 -> (Z.bg i kd vl d).seen = [] /\ ∀ W : World, Calls Tryz.prog 48 #[.agg #[.int .i64 k, .int .i64 K, .int .i64 T, .int .i64 M], .int .i64 i, .agg #[.int .i64 kd, .int .u32 vl], .int .u32 d] W fun e W' => e = .returned (.agg ((Z.bg i kd vl d).v nilS).toArray) /\ Below W.heap.size W W'
def Ran4 (w : World) (s : RS) (e : Ending) (w' : World) : Prop :=
 ∃ (r : R) (sS sK : Sl) (base : Nat), e = .returned (.tuple #[.agg #[.slice sS.A sS.n sS.c, .slice sK.A sK.n sK.c, .int .u64 r.e, .int .u64 r.f, .slice r.L.A r.L.n r.L.c, .slice r.P.A r.P.n r.P.c, .int .u64 r.h, .int .u64 r.t, .slice r.K.A r.K.n r.K.c, .slice r.X.A r.X.n r.X.c, .slice r.S.A r.S.n r.S.c], .bool true]) /\ Rm w' w'.heap.size r s.m /\ (∀ b, b < base -> Off r b) /\ Row w' base 68 8 sS s.steps.length (flatT s.steps) /\ Row w' base 50 7 sK s.calls.length (flatK s.calls) /\ Drivec.StepsOk s /\ w.heap.size <= base /\ Below w.heap.size w w'
set_option maxHeartbeats 8000000 in
theorem run3_yes (w : World) (Z : Mac) (ok : Int -> Int -> Int -> Int -> Prop) (G : FS -> Prop) (k : Int) (K T M : Nat) (b off c : Nat) (pA : Option Addr) (pn pc : Nat) (ls : List (List (Int × Int))) (ps : List (Int × Int))
   (k1 : 1 <= k) (k2 : k <= 3) (a1 : 1 <= K) (a2 : K <= 64) (t1 : 1 <= T) (t2 : T <= 8) (m1 : 2 <= M) (m2 : M <= 64)
   (hl : RdLO w w.heap.size ⟨some ⟨b, off, none⟩, T, c⟩ ls) (hle : ∀ x ∈ ls, x.length <= 1000) (hp : RdP w w.heap.size ⟨pA, pn, pc⟩ ps) (hpn : ps.length <= 20000) (hpd : ∀ p ∈ ps, 0 <= p.2 /\ p.2 <= 4294967295)
   (hZ : MacOk Z ok G) (hops : ∀ p ∈ ps, OkOps ok ls p.2) (hA : DocA k K T M Z G) (hT : DocT k K T M Z G) (hB : DocB k K T M Z ok) :
   Calls Tryz.prog 22 #[.agg #[.int .i64 k, .int .i64 K, .int .i64 T, .int .i64 M], .slice (some ⟨b, off, none⟩) T c, .slice pA pn pc] w (Ran4 w (runM Z ls (RS.first (newM k K T M) T) ps)) := by
 have W0 : Hid (Below w.heap.size w ((w.alloc (.cells #[.int .i64 k, .int .i64 K, .int .i64 T, .int .i64 M] 23)).alloc (.cells zT 35))) := lh (((Below.refl _ _).alloc (Nat.le_refl _) _).alloc (by simp) _)
 have C0 : Hid (Blk ((w.alloc (.cells #[.int .i64 k, .int .i64 K, .int .i64 T, .int .i64 M] 23)).alloc (.cells zT 35)) w.heap.size 23 #[.int .i64 k, .int .i64 K, .int .i64 T, .int .i64 M]) := lh ((Blk.new _ _ _).alloc _)
 have Y0 : Hid (Blk ((w.alloc (.cells #[.int .i64 k, .int .i64 K, .int .i64 T, .int .i64 M] 23)).alloc (.cells zT 35)) (w.heap.size + 1) 35 #[.slice none 0 0, .slice none 0 0, .int .u64 0, .int .u64 0, .slice none 0 0, .slice none 0 0, .int .u64 0, .int .u64 0, .slice none 0 0, .slice none 0 0, .slice none 0 0]) := lh (blk_at (by simp))
 have HL := lh hl
 have HP := lh hp
 have HPN := lh hpn
 have HPD := lh hpd
 have HLE := lh hle
 have HDA := lh hA
 have HDT := lh hT
 have HDB := lh hB
 have HZ := lh hZ
 have HOPS := lh hops
 have hls : T = ls.length := hl.1
 have HR0 : Hid (RunOk G T ls (RS.first (newM k K T M) T)) := lh (RunOk.first (newM_ok k K T M m2) hls.symm)
 have HLN : Hid (Drivec.Lens w ⟨some ⟨b, off, none⟩, T, c⟩ (ls.map List.length)) := lh (RdLO.lens hl (Nat.le_refl _))
 have HNS : Hid (∀ y ∈ ls.map List.length, y <= 1000) := lh (by
   intro y hy
   obtain ⟨x, hx, rfl⟩ := List.mem_map.1 hy
   exact hle x hx)
 have HLS := lh hls
 have hsn2 : (T : Int) <= 9223372036854775807 := by omega
 have HPL : Hid (pn = ps.length) := lh hp.1
 have hp20 : pn <= 20000 := by have := hp.1; simp only at this; omega
 have hp2 : (pn : Int) <= 9223372036854775807 := by omega
 have HMAY : Hid ((Cfg.mk k K T M).may) := lh ⟨⟨k1, k2⟩, ⟨by show (1 : Int) <= (K : Int); omega, by show (K : Int) <= 64; omega⟩, ⟨by show (1 : Int) <= (T : Int); omega, by show (T : Int) <= 8; omega⟩, ⟨by show (2 : Int) <= (M : Int); omega, by show (M : Int) <= 64; omega⟩⟩
 have N8 := lh (And.intro k1 (And.intro k2 (And.intro a1 (And.intro a2 (And.intro t1 (And.intro t2 m2))))))
 clear hl hp hpn hls hle hA hT hB hZ hops hpd
 go_enter Tryz.func22, Tryz.ntmps22
 go_upto_region 1 with fail
 generalize ((w.alloc (.cells #[.int .i64 k, .int .i64 K, .int .i64 T, .int .i64 M] 23)).alloc (.cells zT 35)) = V at W0 C0 Y0 ⊢
 have hcc := C0.out.cell
 refine wp_region_still_tail 6 (by kernel_rfl) (by kernel_rfl) ?_
 simp only [List.take_succ_cons, List.take_zero, List.drop_succ_cons, List.drop_zero]
 obtain ⟨m, hm, hmm, hml⟩ : ∃ m : Nat, m <= maxLen /\ (m : Int) <= 1000 /\ ∀ W, Below w.heap.size w W -> Calls Tryz.prog 45 #[.slice (some ⟨b, off, none⟩) T c] W fun e w' => e = .returned (.int .i64 m) /\ W = w' := ⟨mostN (ls.map List.length) 0, most_len _ 0 HLN.out.2.2.2.1 (Nat.zero_le _), by have := (most_le (ls.map List.length) 0).2 ⟨by decide, HNS.out⟩; omega, fun W hW => longest_c W _ _ _ _ (HLN.out.below hW)⟩
 have HML := lh hml
 clear hml
 repeat (first
   | still_step
   | (refine wpStill_step (fun K hK => ?_); go_simp; refine ⟨_, still_of (HML.out _ (below_drawn W0.out 1)), hK _ ?_⟩; clear hK K))
 refine wpStill_nil ?_
 change wpList _ _ _ _ _ V.drew
 have W0 : Hid (Below w.heap.size w V.drew) := lh (below_drawn W0.out 1)
 have C0 := lh C0.out.drew
 have Y0 := lh Y0.out.drew
 clear hcc
 generalize V.drew = V at W0 C0 Y0 ⊢
 have hcc := C0.out.cell
 go_wp2_with (first
   | (go_at_call 44; (with_reducible refine (may3_yes _ k K T M T m ⟨pA, pn, pc⟩ HMAY.out rfl hmm hp20).mono ?_); rintro e w1 ⟨rfl, hb⟩; go_must (have W1 := lh (W0.out.trans (hb.mono W0.out.size)); have C1 := lh (C0.out.below hb C0.out.lt); have Y1 := lh (Y0.out.below hb Y0.out.lt)); clear hb hcc; have hcc1 := C1.out.cell)
   | (go_at_call 46; (with_reducible refine (new3_c _ k K T M k1 k2 a1 a2 t1 t2 m1 m2).mono ?_); rintro e w2 ⟨gR, gO, gC, gA, co, cc, ca, r0, cO0, cC0, cA0, rfl, hi, hb⟩; go_must (have W2 := lh (W1.out.trans (hb.mono W1.out.size)); have C2 := lh (C1.out.below hb C1.out.lt); have Y2 := lh (Y1.out.below hb Y1.out.lt); have I2 := lh hi; have BS : Hid (w.heap.size + 2 <= w1.heap.size) := lh Y1.out.lt); clear hi hb hcc1))
 generalize w1.heap.size = base at I2 BS ⊢
 clear W0 C0 Y0 W1 C1 Y1 HMAY hsn2
 have N9 := lh (And.intro m1 m2)
 go_loopw [9] (fun n wr => ∃ (j : Nat) (r1 : R) (sS sK : Sl) (cO cC cA : Array Value) (qs : List Sl) (s1 : RS), n = .int .i64 j /\ j <= pn /\ Ir wr base gR gO gC gA co cc ca k K T M r1 sS sK cO cC cA qs s1 /\ s1 = runM Z ls (RS.first (newM k K T M) T) (ps.take j) /\ RunOk G T ls s1 /\ s1.steps.length <= j /\ s1.calls.length <= j /\ Blk wr w.heap.size 23 #[.int .i64 k, .int .i64 K, .int .i64 T, .int .i64 M] /\ Blk wr (w.heap.size + 1) 35 #[.slice none 0 0, .slice none 0 0, .int .u64 0, .int .u64 0, .slice none 0 0, .slice none 0 0, .int .u64 0, .int .u64 0, .slice none 0 0, .slice none 0 0, .slice none 0 0] /\ Below w.heap.size w wr) (fun n _ => pn - (intOf n).toNat)
 case atStart => exact ⟨0, r0, nilS, nilS, cO0, cC0, cA0, _, _, rfl, Nat.zero_le _, I2.out, rfl, HR0.out, Nat.le_refl _, Nat.le_refl _, C2.out, Y2.out, W2.out⟩
 case round =>
 clear I2 W2 C2 Y2
 obtain ⟨j, r1, sS, sK, cO, cC, cA, qs, s1, rfl, hj, hi, hs1, hrok, hst, hca, hcb, hyb, hwb⟩ := hrel
 have I3 := lh hi
 have SE := lh hs1
 have RK := lh hrok
 have HST := lh hst
 have HCA := lh hca
 have C3 := lh hcb
 have Y3 := lh hyb
 have W3 := lh hwb
 clear hi hs1 hrok hst hca hcb hyb hwb
 by_cases hlt : j < pn
 · obtain ⟨b1, off1, hpA, hbp, hcp⟩ := HP.out.2.2.2.2 (by show 0 < pn; omega)
   simp only at hpA
   subst hpA
   obtain ⟨p, hpj⟩ : ∃ p, ps[j]? = some p := ⟨_, List.getElem?_eq_getElem (by have := HPL.out; omega)⟩
   have hp0 := (W3.out.cell (p := ⟨b1, off1 + j * 2, none⟩) hbp).trans (hcp j p hpj).1
   have hpd0 := (W3.out.cell (p := ⟨b1, off1 + j * 2 + 1, none⟩) hbp).trans (hcp j p hpj).2
   have hpr := HP.out.2.2.2.1 p (List.mem_of_getElem? hpj)
   have hpdb := HPD.out p (List.mem_of_getElem? hpj)
   have hops := HOPS.out p (List.mem_of_getElem? hpj)
   have HPJ := lh hpj
   have HB1 := lh hbp
   have hcc := C3.out.cell
   have j0 : (0 : Int) <= j := Int.natCast_nonneg _
   have j1 : (j : Int) < pn := Int.ofNat_lt.2 hlt
   obtain ⟨p1, p2⟩ := p
   simp only at hp0 hpr hpd0 hpdb hops
   have HPDB := lh hpdb
   have HPD0 := lh hpd0
   have HOP := lh hops
   have HTURN : Hid (runM Z ls (RS.first (newM k K T M) T) (ps.take (j + 1)) = turnM Z ls s1 p1 p2) := lh (by rw [runM_take HPJ.out, <- SE.out])
   have HNX : Hid (RunOk G T ls (turnM Z ls s1 p1 p2) /\ (turnM Z ls s1 p1 p2).steps.length <= j + 1 /\ (turnM Z ls s1 p1 p2).calls.length <= j + 1) := lh (by
     have h1 := turnM_ok HZ.out HLS.out.symm RK.out.ok RK.out.at_ p1 p2 HOP.out
     exact ⟨RK.out.turn HZ.out HLS.out.symm p1 p2 HOP.out, Nat.le_trans h1.2.2.1 (Nat.succ_le_succ HST.out), Nat.le_trans h1.2.2.2 (Nat.succ_le_succ HCA.out)⟩)
   obtain ⟨hpr1, hpr2⟩ := hpr
   clear hcp hpj hpd0 hpdb hops
   by_cases hneg : p1 < 0
   · have HOFF : Hid (turnM Z ls s1 p1 p2 = s1) := lh (turnM_off p2 (.inl hneg))
     go_wp2
     go_roundw
     case rel => exact ⟨j + 1, r1, sS, sK, cO, cC, cA, qs, s1, by go_num, hlt, I3.out, (by rw [HTURN.out, HOFF.out]), RK.out, Nat.le_succ_of_le HST.out, Nat.le_succ_of_le HCA.out, C3.out, Y3.out, W3.out⟩
     case measure => simp [intOf]; omega
   · by_cases hge : (T : Int) <= p1
     · have HOFF : Hid (turnM Z ls s1 p1 p2 = s1) := lh (turnM_off p2 (.inr (by rw [<- HLS.out]; exact hge)))
       go_wp2
       go_roundw
       case rel => exact ⟨j + 1, r1, sS, sK, cO, cC, cA, qs, s1, by go_num, hlt, I3.out, (by rw [HTURN.out, HOFF.out]), RK.out, Nat.le_succ_of_le HST.out, Nat.le_succ_of_le HCA.out, C3.out, Y3.out, W3.out⟩
       case measure => simp [intOf]; omega
     · obtain ⟨t, rfl⟩ : ∃ t : Nat, p1 = t := ⟨p1.toNat, by omega⟩
       have htT : t < T := by omega
       have HTN := lh htT
       obtain ⟨l, hl⟩ : ∃ l, ls[t]? = some l := ⟨_, List.getElem?_eq_getElem (by rw [<- HLS.out]; exact htT)⟩
       obtain ⟨n, hat, hnl⟩ := RK.out.at_ t l hl
       obtain ⟨b', off', hA, hbB, hcc2⟩ := HL.out.2.2.2 (by show 0 < T; omega)
       injection hA with hA
       injection hA with hA1 hA2
       subst hA1
       subst hA2
       obtain ⟨⟨saA, san, sac⟩, hsc, hsa⟩ := hcc2 t l hl
       have hsl := (W3.out.cell (p := ⟨b, off + t, none⟩) hbB).trans hsc
       have hsan : san = l.length := hsa.1
       subst hsan
       simp only at hsl
       have HLL := lh hl
       have HAT0 := lh hat
       have HSA := lh hsa
       have HNL := lh hnl
       have HBB := lh hbB
       have hr3 := I3.out.hR.cell
       have hr3l := I3.out.hR.lt
       have hac := (I3.out.hA.cell t).trans (I3.out.at_ t _ hat)
       have t0 : (0 : Int) <= t := Int.natCast_nonneg _
       have t3 : (t : Int) < T := Int.ofNat_lt.2 htT
       have n0 : (0 : Int) <= n := Int.natCast_nonneg _
       have HAT1 : Hid (∃ a0 : Nat, s1.at_[t]? = some (a0 : Int) /\ a0 <= 100000) := lh ⟨n, HAT0.out, Nat.le_trans HNL.out (Nat.le_trans (HLE.out l (List.mem_of_getElem? HLL.out)) (by decide))⟩
       clear hcc2 hsc hsa hl hat hnl hneg hge
       by_cases hnl : n < l.length
       · have n1 : (n : Int) < l.length := Int.ofNat_lt.2 hnl
         obtain ⟨b2, off2, hsA, hb2, hcs⟩ := HSA.out.2.2.2 (by show 0 < l.length; omega)
         simp only at hsA
         subst hsA
         obtain ⟨o, ho⟩ : ∃ o, l[n]? = some o := ⟨_, List.getElem?_eq_getElem hnl⟩
         obtain ⟨ho0, ho1⟩ := hcs n o ho
         have hb0 := (W3.out.cell (p := ⟨b2, off2 + n * 2, none⟩) hb2).trans ho0
         have hb1 := (W3.out.cell (p := ⟨b2, off2 + n * 2 + 1, none⟩) hb2).trans ho1
         have HO := lh ho
         have HB2 := lh hb2
         obtain ⟨o1, o2⟩ := o
         simp only at hb0 hb1
         clear ho0 ho1 hcs ho hb2
         have HOK : Hid (ok t o1 o2 p2) := lh (HOP.out t l n (o1, o2) HLL.out HO.out)
         obtain ⟨s2, f, hs2, hf, hg, hp, hk0, ht2, hl2, hc2, hm2⟩ := RK.out.goes HZ.out HLS.out.symm HTN.out HLL.out HAT0.out HO.out HOK.out
         have HS2 := lh hs2
         have HF := lh hf
         have HG := lh (And.intro hg hp)
         have HK0 := lh hk0
         have HT2 := lh ht2
         have HM2 : Hid (s2.m.ok) := lh (by rw [hm2]; exact RK.out.ok.m)
         have HCAP : Hid (s2.steps.length <= 40000 /\ s2.calls.length <= 40000) := lh (by
           have h1 := HST.out
           have h2 := HCA.out
           exact ⟨by omega, by omega⟩)
         have hbg := HDB.out t o1 o2 p2 HOK.out HPDB.out.1 HPDB.out.2
         have HSEEN := lh hbg.1
         have HBG := lh hbg.2
         clear hs2 hf hg hp hk0 ht2 hl2 hc2 hm2 hbg
         have BSL := lh (Nat.le_trans BS.out I3.out.low.1)
         go_wp2
         go_quiet (fail)
         go_wp2
         have I4 := lh (I3.out.below (below_drawn (Below.refl _ _) nq))
         have C4 := lh (C3.out.below (below_drawn (Below.refl _ _) nq) C3.out.lt)
         have Y4 := lh (Y3.out.below (below_drawn (Below.refl _ _) nq) Y3.out.lt)
         have W4 := lh (W3.out.trans ((below_drawn (Below.refl _ _) nq).mono W3.out.size))
         have hac4 : (wr.drewN nq).cell? ⟨gA, t, none⟩ = some (.int .i64 n) := hac
         have hsl4 : (wr.drewN nq).cell? ⟨b, off + t, none⟩ = some (.slice (some ⟨b2, off2, none⟩) l.length sac) := hsl
         have hb4 : (wr.drewN nq).cell? ⟨b2, off2 + n * 2, none⟩ = some (.int .i64 o1) := hb0
         have hc4 : (wr.drewN nq).cell? ⟨b2, off2 + n * 2 + 1, none⟩ = some (.int .u32 o2) := hb1
         have hd4 : (wr.drewN nq).cell? ⟨b1, off1 + j * 2 + 1, none⟩ = some (.int .u32 p2) := HPD0.out
         have BSL4 : Hid (w.heap.size + 2 <= (wr.drewN nq).heap.size) := BSL
         clear hac hsl hb0 hb1 hp0 hcc hr3 hr3l
         generalize wr.drewN nq = wq at I4 C4 Y4 W4 hac4 hsl4 hb4 hc4 hd4 BSL4 ⊢
         have hr4 := I4.out.hR.cell
         have hr4l := I4.out.hR.lt
         have HD4 := lh hd4
         clear hd4
         have HALC : Hid (∀ ob : Obj, (wq.alloc ob).cell? ⟨gA, t, none⟩ = some (.int .i64 n) /\ (wq.alloc ob).cell? ⟨b, off + t, none⟩ = some (.slice (some ⟨b2, off2, none⟩) l.length sac) /\ (wq.alloc ob).cell? ⟨b2, off2 + n * 2, none⟩ = some (.int .i64 o1) /\ (wq.alloc ob).cell? ⟨b2, off2 + n * 2 + 1, none⟩ = some (.int .u32 o2)) := lh (fun ob => by
           have hB : Below wq.heap.size wq (wq.alloc ob) := (Below.refl _ _).alloc (Nat.le_refl _) ob
           have h1 := I4.out.hA.lt
           have h2 := HBB.out
           have h3 := HB2.out
           have h4 := W4.out.size
           exact ⟨(hB.cell (p := ⟨gA, _, none⟩) h1).trans hac4, (hB.cell (p := ⟨b, _, none⟩) (Nat.lt_of_lt_of_le h2 h4)).trans hsl4, (hB.cell (p := ⟨b2, _, none⟩) (Nat.lt_of_lt_of_le h3 h4)).trans hb4, (hB.cell (p := ⟨b2, _, none⟩) (Nat.lt_of_lt_of_le h3 h4)).trans hc4⟩)
         refine Zreg.begin_ (S := (fun w' => (∀ j, w'.cell? ⟨gR, j, none⟩ = (#[.int .i64 k, .int .i64 K, .int .i64 T, .int .i64 M, .int .u64 r1.e, .int .u64 r1.f, .slice r1.L.A r1.L.n r1.L.c, .slice r1.P.A r1.P.n r1.P.c, .int .u64 r1.h, .int .u64 r1.t, .slice r1.K.A r1.K.n r1.K.c, .slice r1.X.A r1.X.n r1.X.c, .slice r1.S.A r1.S.n r1.S.c, .slice (some ⟨gO, 0, none⟩) T co, .slice (some ⟨gC, 0, none⟩) T cc, .slice (some ⟨gA, 0, none⟩) T ca, .slice sS.A sS.n sS.c, .slice sK.A sK.n sK.c, .int .u64 0, .int .u64 0, .slice none 0 0, .slice none 0 0, .int .u64 0, .int .u64 0, .slice none 0 0, .slice none 0 0, .slice none 0 0] : Array Value)[j]?) /\ w'.cell? ⟨gA, t, none⟩ = some (.int .i64 n) /\ w'.cell? ⟨b, off + t, none⟩ = some (.slice (some ⟨b2, off2, none⟩) l.length sac) /\ w'.cell? ⟨b2, off2 + n * 2, none⟩ = some (.int .i64 o1) /\ w'.cell? ⟨b2, off2 + n * 2 + 1, none⟩ = some (.int .u32 o2))) (zs := [14]) (by kernel_rfl) ?_
         show Zreg.After _ _ _ _ _ _ 15 #[false, false, false, false, false, false, false, false, false, false, false, false, false, false, false] _ _
         refine Zreg.tP 0 55 (x := ?xp_0) rfl rfl (by kernel_rfl) (fun _ _ _ h => h) (.inr ⟨I4.out.hR.cell, hac4, hsl4, hb4, hc4⟩) (Or.inl ⟨by rfl, ?yp_0⟩) ?rp_0
         case yp_0 => (intro w _; go_simp <;> with_reducible rfl)
         simp only [uA, sZ, uC]
         refine Zreg.tP 1 56 (x := ?xp_1) rfl rfl (by kernel_rfl) (fun _ _ _ h => h) (.inr ⟨I4.out.hR.cell, hac4, hsl4, hb4, hc4⟩) (Or.inl ⟨by rfl, ?yp_1⟩) ?rp_1
         case yp_1 => (intro w _; go_simp <;> with_reducible rfl)
         simp only [uA, sZ, uC]
         refine Zreg.tP 2 57 (x := ?xp_2) rfl rfl (by kernel_rfl) (fun _ _ _ h => h) (.inr ⟨I4.out.hR.cell, hac4, hsl4, hb4, hc4⟩) (Or.inl ⟨by rfl, ?yp_2⟩) ?rp_2
         case yp_2 => (intro w _; go_simp <;> with_reducible rfl)
         simp only [uA, sZ, uC]
         refine Zreg.tD 3 58 (x := ?xp_3) rfl rfl (by kernel_rfl) (fun _ _ _ h => h) (.inr ⟨I4.out.hR.cell, hac4, hsl4, hb4, hc4⟩) (Or.inl ⟨by rfl, ?yp_3⟩) ?rp_3
         case yp_3 => (intro w hSw; (try dsimp only at hSw); go_simp <;> with_reducible rfl)
         simp only [uA, sZ, uC]
         refine Zreg.tP 4 59 (x := ?xp_4) rfl rfl (by kernel_rfl) (fun _ _ _ h => h) (.inr ⟨I4.out.hR.cell, hac4, hsl4, hb4, hc4⟩) (Or.inl ⟨by rfl, ?yp_4⟩) ?rp_4
         case yp_4 => (intro w _; go_simp <;> with_reducible rfl)
         simp only [uA, sZ, uC]
         refine Zreg.tP 5 60 (x := ?xp_5) rfl rfl (by kernel_rfl) (fun _ _ _ h => h) (.inr ⟨I4.out.hR.cell, hac4, hsl4, hb4, hc4⟩) (Or.inl ⟨by rfl, ?yp_5⟩) ?rp_5
         case yp_5 => (intro w _; go_simp <;> with_reducible rfl)
         simp only [uA, sZ, uC]
         refine Zreg.tP 6 61 (x := ?xp_6) rfl rfl (by kernel_rfl) (fun _ _ _ h => h) (.inr ⟨I4.out.hR.cell, hac4, hsl4, hb4, hc4⟩) (Or.inl ⟨by rfl, ?yp_6⟩) ?rp_6
         case yp_6 => (intro w _; go_simp <;> with_reducible rfl)
         simp only [uA, sZ, uC]
         refine Zreg.tD 7 62 (x := ?xp_7) rfl rfl (by kernel_rfl) (fun _ _ _ h => h) (.inr ⟨I4.out.hR.cell, hac4, hsl4, hb4, hc4⟩) (Or.inl ⟨by rfl, ?yp_7⟩) ?rp_7
         case yp_7 => (intro w hSw; (try dsimp only at hSw); go_simp <;> with_reducible rfl)
         simp only [uA, sZ, uC]
         refine Zreg.tP 8 63 (x := ?xp_8) rfl rfl (by kernel_rfl) (fun _ _ _ h => h) (.inr ⟨I4.out.hR.cell, hac4, hsl4, hb4, hc4⟩) (Or.inl ⟨by rfl, ?yp_8⟩) ?rp_8
         case yp_8 => (intro w _; go_simp <;> with_reducible rfl)
         simp only [uA, sZ, uC]
         refine Zreg.tP 9 64 (x := ?xp_9) rfl rfl (by kernel_rfl) (fun _ _ _ h => h) (.inr ⟨I4.out.hR.cell, hac4, hsl4, hb4, hc4⟩) (Or.inl ⟨by rfl, ?yp_9⟩) ?rp_9
         case yp_9 => (intro w _; go_simp <;> with_reducible rfl)
         simp only [uA, sZ, uC]
         refine Zreg.tD 10 65 (x := ?xp_10) rfl rfl (by kernel_rfl) (fun _ _ _ h => h) (.inr ⟨I4.out.hR.cell, hac4, hsl4, hb4, hc4⟩) (Or.inl ⟨by rfl, ?yp_10⟩) ?rp_10
         case yp_10 => (intro w hSw; (try dsimp only at hSw); go_simp <;> with_reducible rfl)
         simp only [uA, sZ, uC]
         refine Zreg.tP 11 66 (x := ?xp_11) rfl rfl (by kernel_rfl) (fun _ _ _ h => h) (.inr ⟨I4.out.hR.cell, hac4, hsl4, hb4, hc4⟩) (Or.inl ⟨by rfl, ?yp_11⟩) ?rp_11
         case yp_11 => (intro w _; go_simp <;> with_reducible rfl)
         simp only [uA, sZ, uC]
         refine Zreg.tD 12 67 (x := ?xp_12) rfl rfl (by kernel_rfl) (fun _ _ _ h => h) (.inr ⟨I4.out.hR.cell, hac4, hsl4, hb4, hc4⟩) (Or.inl ⟨by rfl, ?yp_12⟩) ?rp_12
         case yp_12 => (intro w hSw; (try dsimp only at hSw); go_simp <;> with_reducible rfl)
         simp only [uA, sZ, uC]
         refine Zreg.one 13 (by kernel_rfl) rfl rfl fun K_ hK => ?_
         go_simp
         refine hK.out _ _ (.inr ⟨(I4.out.hR.alloc _).cell, (HALC.out _).1, (HALC.out _).2.1, (HALC.out _).2.2.1, (HALC.out _).2.2.2⟩) fun _ => ?_
         clear hK
         simp only [uA, sZ, uC]
         refine Zreg.one 14 (by kernel_rfl) rfl rfl fun K_ hK => ?_
         go_simp
         refine hK.out _ _ (.inl (by kernel_rfl)) fun _ => ?_
         clear hK
         simp only [uA, sZ, uC]
         refine Zreg.done (by kernel_rfl) ?_ _
         go_wp2
         have hB5 : Below wq.heap.size wq ((wq.alloc (.cells #[.int .i64 o1, .int .u32 o2] 46)).drew) := below_drawn ((Below.refl _ _).alloc (Nat.le_refl _) _) 1
         have E5 : Hid (Blk ((wq.alloc (.cells #[.int .i64 o1, .int .u32 o2] 46)).drew) wq.heap.size 46 #[.int .i64 o1, .int .u32 o2]) := lh (Blk.new wq _ _).drew
         have I5 := lh (I4.out.below hB5)
         have C5 := lh (C4.out.below hB5 C4.out.lt)
         have Y5 := lh (Y4.out.below hB5 Y4.out.lt)
         have W5 := lh (W4.out.trans (hB5.mono W4.out.size))
         have hd5 : ((wq.alloc (.cells #[.int .i64 o1, .int .u32 o2] 46)).drew).cell? ⟨b1, off1 + j * 2 + 1, none⟩ = some (.int .u32 p2) := (hB5.cell (p := ⟨b1, _, none⟩) (Nat.lt_of_lt_of_le HB1.out W4.out.size)).trans HD4.out
         clear hB5 HALC hac4 hsl4 hb4 hc4 hr4 hr4l I4 C4 Y4 W4
         generalize ((wq.alloc (.cells #[.int .i64 o1, .int .u32 o2] 46)).drew) = w5 at E5 I5 C5 Y5 W5 hd5 ⊢
         generalize wq.heap.size = gE at E5 BSL4 ⊢
         have HB5 := lh (Nat.lt_of_lt_of_le HB1.out W5.out.size)
         refine Zreg.begin_ (S := (fun w' => (∀ j, w'.cell? ⟨w.heap.size, j, none⟩ = (#[.int .i64 k, .int .i64 K, .int .i64 T, .int .i64 M] : Array Value)[j]?) /\ (∀ j, w'.cell? ⟨gE, j, none⟩ = (#[.int .i64 o1, .int .u32 o2] : Array Value)[j]?) /\ w'.cell? ⟨b1, off1 + j * 2 + 1, none⟩ = some (.int .u32 p2))) (zs := [15]) (by kernel_rfl) ?_
         show Zreg.After _ _ _ _ _ _ 16 #[false, false, false, false, false, false, false, false, false, false, false, false, false, false, false, false] _ _
         refine Zreg.tP 0 68 (x := ?xq_0) rfl rfl (by kernel_rfl) (fun _ _ _ h => h) (.inr ⟨C5.out.drew.cell, E5.out.drew.cell, hd5⟩) (Or.inl ⟨by rfl, ?yq_0⟩) ?rq_0
         case yq_0 => (intro w _; go_simp <;> with_reducible rfl)
         simp only [uA, sZ, uC]
         refine Zreg.tP 1 69 (x := ?xq_1) rfl rfl (by kernel_rfl) (fun _ _ _ h => h) (.inr ⟨C5.out.drew.cell, E5.out.drew.cell, hd5⟩) (Or.inl ⟨by rfl, ?yq_1⟩) ?rq_1
         case yq_1 => (intro w _; go_simp <;> with_reducible rfl)
         simp only [uA, sZ, uC]
         refine Zreg.tD 2 70 (x := ?xq_2) rfl rfl (by kernel_rfl) (fun _ _ _ h => h) (.inr ⟨C5.out.drew.cell, E5.out.drew.cell, hd5⟩) (Or.inl ⟨by rfl, ?yq_2⟩) ?rq_2
         case yq_2 => (intro w hSw; (try dsimp only at hSw); go_simp <;> with_reducible rfl)
         simp only [uA, sZ, uC]
         refine Zreg.tP 3 71 (x := ?xq_3) rfl rfl (by kernel_rfl) (fun _ _ _ h => h) (.inr ⟨C5.out.drew.cell, E5.out.drew.cell, hd5⟩) (Or.inl ⟨by rfl, ?yq_3⟩) ?rq_3
         case yq_3 => (intro w _; go_simp <;> with_reducible rfl)
         simp only [uA, sZ, uC]
         refine Zreg.tD 4 72 (x := ?xq_4) rfl rfl (by kernel_rfl) (fun _ _ _ h => h) (.inr ⟨C5.out.drew.cell, E5.out.drew.cell, hd5⟩) (Or.inl ⟨by rfl, ?yq_4⟩) ?rq_4
         case yq_4 => (intro w hSw; (try dsimp only at hSw); go_simp <;> with_reducible rfl)
         simp only [uA, sZ, uC]
         refine Zreg.tP 5 73 (x := ?xq_5) rfl rfl (by kernel_rfl) (fun _ _ _ h => h) (.inr ⟨C5.out.drew.cell, E5.out.drew.cell, hd5⟩) (Or.inl ⟨by rfl, ?yq_5⟩) ?rq_5
         case yq_5 => (intro w _; go_simp <;> with_reducible rfl)
         simp only [uA, sZ, uC]
         refine Zreg.tP 6 74 (x := ?xq_6) rfl rfl (by kernel_rfl) (fun _ _ _ h => h) (.inr ⟨C5.out.drew.cell, E5.out.drew.cell, hd5⟩) (Or.inl ⟨by rfl, ?yq_6⟩) ?rq_6
         case yq_6 => (intro w _; go_simp <;> with_reducible rfl)
         simp only [uA, sZ, uC]
         refine Zreg.tP 7 75 (x := ?xq_7) rfl rfl (by kernel_rfl) (fun _ _ _ h => h) (.inr ⟨C5.out.drew.cell, E5.out.drew.cell, hd5⟩) (Or.inl ⟨by rfl, ?yq_7⟩) ?rq_7
         case yq_7 => (intro w _; go_simp <;> with_reducible rfl)
         simp only [uA, sZ, uC]
         refine Zreg.tP 8 76 (x := ?xq_8) rfl rfl (by kernel_rfl) (fun _ _ _ h => h) (.inr ⟨C5.out.drew.cell, E5.out.drew.cell, hd5⟩) (Or.inl ⟨by rfl, ?yq_8⟩) ?rq_8
         case yq_8 => (intro w _; go_simp <;> with_reducible rfl)
         simp only [uA, sZ, uC]
         refine Zreg.tD 9 77 (x := ?xq_9) rfl rfl (by kernel_rfl) (fun _ _ _ h => h) (.inr ⟨C5.out.drew.cell, E5.out.drew.cell, hd5⟩) (Or.inl ⟨by rfl, ?yq_9⟩) ?rq_9
         case yq_9 => (intro w hSw; (try dsimp only at hSw); go_simp <;> with_reducible rfl)
         simp only [uA, sZ, uC]
         refine Zreg.tP 11 79 (x := ?xq_11) rfl rfl (by kernel_rfl) (fun _ _ _ h => h) (.inr ⟨C5.out.drew.cell, E5.out.drew.cell, hd5⟩) (Or.inl ⟨by rfl, ?yq_11⟩) ?rq_11
         case yq_11 => (intro w _; go_simp <;> with_reducible rfl)
         simp only [uA, sZ, uC]
         refine Zreg.tD 12 80 (x := ?xq_12) rfl rfl (by kernel_rfl) (fun _ _ _ h => h) (.inr ⟨C5.out.drew.cell, E5.out.drew.cell, hd5⟩) (Or.inl ⟨by rfl, ?yq_12⟩) ?rq_12
         case yq_12 => (intro w hSw; (try dsimp only at hSw); go_simp <;> with_reducible rfl)
         simp only [uA, sZ, uC]
         refine Zreg.tP 13 81 (x := ?xq_13) rfl rfl (by kernel_rfl) (fun _ _ _ h => h) (.inr ⟨C5.out.drew.cell, E5.out.drew.cell, hd5⟩) (Or.inl ⟨by rfl, ?yq_13⟩) ?rq_13
         case yq_13 => (intro w _; go_simp <;> with_reducible rfl)
         simp only [uA, sZ, uC]
         refine Zreg.tD 14 82 (x := ?xq_14) rfl rfl (by kernel_rfl) (fun _ _ _ h => h) (.inr ⟨C5.out.drew.cell, E5.out.drew.cell, hd5⟩) (Or.inl ⟨by rfl, ?yq_14⟩) ?rq_14
         case yq_14 => (intro w hSw; (try dsimp only at hSw); go_simp <;> with_reducible rfl)
         simp only [uA, sZ, uC]
         refine Zreg.one 10 (by kernel_rfl) rfl rfl fun K_ hK => ?_
         go_simp
         go_at_call 48
         (with_reducible refine (HBG.out _).mono ?_)
         rintro e w6 ⟨rfl, hb⟩
         have C6 := lh (C5.out.drew.below hb C5.out.drew.lt)
         have E6 := lh (E5.out.drew.below hb E5.out.drew.lt)
         have D6 : Hid (w6.cell? ⟨b1, off1 + j * 2 + 1, none⟩ = some (.int .u32 p2)) := lh ((hb.cell (p := ⟨b1, _, none⟩) HB5.out).trans hd5)
         have I6 := lh (I5.out.below ((below_drawn (Below.refl _ _) 1).trans hb))
         have B6 : Hid (Below w5.heap.size w5 w6) := lh ((below_drawn (Below.refl _ _) 1).trans hb)
         clear hb
         refine hK.out _ _ (.inr ⟨C6.out.cell, E6.out.cell, D6.out⟩) fun _ => ?_
         clear hK
         simp only [uA, sZ, uC]
         refine Zreg.one 15 (by kernel_rfl) rfl rfl fun K_ hK => ?_
         go_simp
         have hst8 := step_c w6 base gR gO gC gA co cc ca k K T M r1 sS sK cO cC cA qs s1 s2 Z.ask Z.tell t (Z.bg t o1 o2 p2) nilS o1 o2 true f I6.out HTN.out (HS2.out.imp_right (fun h => ⟨h.1, rfl, h.2.2⟩)) HF.out ⟨(by rw [HSEEN.out]; exact Rd.nil _ _ none), fun b _ ad hn _ => absurd hn (Nat.lt_irrefl 0)⟩ (HDA.out f HG.out.1 HG.out.2) (HZ.out.ask f HG.out.1 HG.out.2) (fun W q was dn h1 _ hr => HDT.out f HG.out.1 HG.out.2 W q was dn (by rw [h1]; exact (acc_was s2.m HM2.out _).1) (by rw [h1]; exact (acc_was s2.m HM2.out _).2) hr) HK0.out HAT1.out HCAP.out
         go_at_call 47
         (with_reducible refine hst8.mono ?_)
         rintro e w7 ⟨⟨r2, sS2, sK2, cO2, cC2, cA2, qs2, hi2⟩, rfl, hb⟩
         have I7 := lh hi2
         have B7 := lh hb
         clear hi2 hb
         refine hK.out _ _ (.inl (by kernel_rfl)) fun _ => ?_
         clear hK
         simp only [uA, sZ, uC]
         refine Zreg.done (by kernel_rfl) ?_ _
         go_wp2
         go_roundw
         case rel =>
           have hb7 := B7.out
           have hbs := BS.out
           refine ⟨j + 1, r2, sS2, sK2, cO2, cC2, cA2, qs2, goR Z.ask Z.tell s2 t, by go_num, hlt, I7.out, (by rw [HTURN.out, HT2.out]), ?_, ?_, ?_, C6.out.below hb7 (by omega), ?_, ?_⟩
           · have h := HNX.out.1
             rw [HT2.out] at h
             exact h
           · have h := HNX.out.2.1
             rw [HT2.out] at h
             exact h
           · have h := HNX.out.2.2
             rw [HT2.out] at h
             exact h
           · exact (Y5.out.below B6.out Y5.out.lt).below hb7 (by omega)
           · exact (W5.out.trans (B6.out.mono W5.out.size)).trans (hb7.mono (by omega))
         case measure => simp [intOf]; omega
       · have n1 : ¬ (n : Int) < l.length := by omega
         have HNI := lh (Nat.le_of_not_lt hnl)
         have hbsl := BS.out
         rcases RK.out.ok.call t HTN.out with hcl | ⟨kk, hkk⟩
         · have HOFF : Hid (turnM Z ls s1 t p2 = s1) := lh (turnM_none p2 HLL.out hcl HAT0.out HNI.out)
           have hidle : ∀ N : Nat, Calls Tryz.prog 47 #[.pointer (some ⟨gR, 0, none⟩), .int .i64 t, .agg #[.int .i64 0, .int .u32 0, .int .i64 0, .int .i64 0, .int .i64 0, .int .u64 0, .int .u64 0, .int .u64 0, .int .u64 0, .int .i64 0, .slice none 0 0, .bool false, .int .u64 0, .int .u64 0, .int .i64 0, .int .u32 0, .int .i64 0, .int .i64 0, .int .i64 0, .int .i64 0, .int .u64 0, .int .u64 0, .int .i64 0, .int .u32 0], .int .i64 0, .int .u32 0, .bool false] (wr.drewN N) (fun e w' => Ir w' base gR gO gC gA co cc ca k K T M r1 sS sK cO cC cA qs s1 /\ e = .returned (.bool false) /\ Below base (wr.drewN N) w') := fun N => step_idle (wr.drewN N) base gR gO gC gA co cc ca k K T M r1 sS sK cO cC cA qs s1 t FS.none nilS 0 0 (-1) (I3.out.below (below_drawn (Below.refl _ _) _)) HTN.out hcl (by decide)
           have HIDLE := lh hidle
           clear hidle hcl
           go_wp2
           go_quiet (fail)
           go_wp2_with (go_at_call 47; (with_reducible refine (HIDLE.out _).mono ?_); rintro e w6 ⟨hi2, rfl, hb⟩; go_must (have I6 := lh hi2; have B6 := lh hb); clear hi2 hb)
           go_roundw
           case rel => exact ⟨j + 1, r1, sS, sK, cO, cC, cA, qs, s1, by go_num, hlt, I6.out, (by rw [HTURN.out, HOFF.out]), RK.out, Nat.le_succ_of_le HST.out, Nat.le_succ_of_le HCA.out, Blk.below (C3.out.below (below_drawn (Below.refl _ _) _) C3.out.lt) B6.out (by omega), Blk.below (Y3.out.below (below_drawn (Below.refl _ _) _) Y3.out.lt) B6.out (by omega), (below_drawn W3.out _).trans (B6.out.mono (by omega))⟩
           case measure => simp [intOf]; omega
         · obtain ⟨f, hf, hg, hp, hkl, ht2⟩ := RK.out.goes_on (Z := Z) HLS.out.symm HTN.out hkk p2
           have HT2 := lh ht2
           have HKK := lh hkk
           have hstep : ∀ N : Nat, Calls Tryz.prog 47 #[.pointer (some ⟨gR, 0, none⟩), .int .i64 t, .agg #[.int .i64 0, .int .u32 0, .int .i64 0, .int .i64 0, .int .i64 0, .int .u64 0, .int .u64 0, .int .u64 0, .int .u64 0, .int .i64 0, .slice none 0 0, .bool false, .int .u64 0, .int .u64 0, .int .i64 0, .int .u32 0, .int .i64 0, .int .i64 0, .int .i64 0, .int .i64 0, .int .u64 0, .int .u64 0, .int .i64 0, .int .u32 0], .int .i64 0, .int .u32 0, .bool false] (wr.drewN N) (fun e w' => (∃ r' sS' sK' cO' cC' cA' qs', Ir w' base gR gO gC gA co cc ca k K T M r' sS' sK' cO' cC' cA' qs' (goR Z.ask Z.tell s1 t)) /\ e = .returned (.bool true) /\ Below base (wr.drewN N) w') := fun N => step_c (wr.drewN N) base gR gO gC gA co cc ca k K T M r1 sS sK cO cC cA qs s1 s1 Z.ask Z.tell t FS.none nilS 0 0 false f (I3.out.below (below_drawn (Below.refl _ _) _)) HTN.out (.inl ⟨by rw [List.getD_eq_getElem?_getD, HKK.out]; exact Int.natCast_nonneg kk, rfl⟩) hf ⟨Rd.nil _ _ none, fun b _ ad hn _ => absurd hn (Nat.lt_irrefl 0)⟩ (HDA.out f hg hp) (HZ.out.ask f hg hp) (fun W q was dn h1 _ hr => HDT.out f hg hp W q was dn (by rw [h1]; exact (acc_was s1.m RK.out.ok.m _).1) (by rw [h1]; exact (acc_was s1.m RK.out.ok.m _).2) hr) ⟨kk, HKK.out, hkl⟩ HAT1.out (by have h1 := HST.out; have h2 := HCA.out; exact ⟨by omega, by omega⟩)
           have HSTEP := lh hstep
           clear hstep hkk hf hg hp hkl ht2
           go_wp2
           go_quiet (fail)
           go_wp2_with (go_at_call 47; (with_reducible refine (HSTEP.out _).mono ?_); rintro e w6 ⟨⟨r2, sS2, sK2, cO2, cC2, cA2, qs2, hi2⟩, rfl, hb⟩; go_must (have I6 := lh hi2; have B6 := lh hb); clear hi2 hb)
           go_roundw
           case rel =>
             refine ⟨j + 1, r2, sS2, sK2, cO2, cC2, cA2, qs2, goR Z.ask Z.tell s1 t, by go_num, hlt, I6.out, (by rw [HTURN.out, HT2.out]), ?_, ?_, ?_, Blk.below (C3.out.below (below_drawn (Below.refl _ _) _) C3.out.lt) B6.out (by omega), Blk.below (Y3.out.below (below_drawn (Below.refl _ _) _) Y3.out.lt) B6.out (by omega), (below_drawn W3.out _).trans (B6.out.mono (by omega))⟩
             · have h := HNX.out.1
               rw [HT2.out] at h
               exact h
             · have h := HNX.out.2.1
               rw [HT2.out] at h
               exact h
             · have h := HNX.out.2.2
               rw [HT2.out] at h
               exact h
           case measure => simp [intOf]; omega
 · obtain rfl : j = pn := by omega
   have hr3 := I3.out.hR.cell
   have hr3f := I3.out.hR.frozen
   go_upto_region 14 with fail
   have O4 : Hid (Only (fun g => g = gR) wr (((((((((wr.setCell ⟨gR, 18, none⟩ (.int .u64 r1.e)).setCell ⟨gR, 19, none⟩ (.int .u64 r1.f)).setCell ⟨gR, 20, none⟩ (.slice r1.L.A r1.L.n r1.L.c)).setCell ⟨gR, 21, none⟩ (.slice r1.P.A r1.P.n r1.P.c)).setCell ⟨gR, 22, none⟩ (.int .u64 r1.h)).setCell ⟨gR, 23, none⟩ (.int .u64 r1.t)).setCell ⟨gR, 24, none⟩ (.slice r1.K.A r1.K.n r1.K.c)).setCell ⟨gR, 25, none⟩ (.slice r1.X.A r1.X.n r1.X.c)).setCell ⟨gR, 26, none⟩ (.slice r1.S.A r1.S.n r1.S.c))) := lh (Only.set_ (Only.set_ (Only.set_ (Only.set_ (Only.set_ (Only.set_ (Only.set_ (Only.set_ (Only.set_ (Only.refl (fun g => g = gR) wr) ⟨gR, 18, none⟩ (.inl rfl) (.int .u64 r1.e)) ⟨gR, 19, none⟩ (.inl rfl) (.int .u64 r1.f)) ⟨gR, 20, none⟩ (.inl rfl) (.slice r1.L.A r1.L.n r1.L.c)) ⟨gR, 21, none⟩ (.inl rfl) (.slice r1.P.A r1.P.n r1.P.c)) ⟨gR, 22, none⟩ (.inl rfl) (.int .u64 r1.h)) ⟨gR, 23, none⟩ (.inl rfl) (.int .u64 r1.t)) ⟨gR, 24, none⟩ (.inl rfl) (.slice r1.K.A r1.K.n r1.K.c)) ⟨gR, 25, none⟩ (.inl rfl) (.slice r1.X.A r1.X.n r1.X.c)) ⟨gR, 26, none⟩ (.inl rfl) (.slice r1.S.A r1.S.n r1.S.c))
   have R4 : Hid (Blk (((((((((wr.setCell ⟨gR, 18, none⟩ (.int .u64 r1.e)).setCell ⟨gR, 19, none⟩ (.int .u64 r1.f)).setCell ⟨gR, 20, none⟩ (.slice r1.L.A r1.L.n r1.L.c)).setCell ⟨gR, 21, none⟩ (.slice r1.P.A r1.P.n r1.P.c)).setCell ⟨gR, 22, none⟩ (.int .u64 r1.h)).setCell ⟨gR, 23, none⟩ (.int .u64 r1.t)).setCell ⟨gR, 24, none⟩ (.slice r1.K.A r1.K.n r1.K.c)).setCell ⟨gR, 25, none⟩ (.slice r1.X.A r1.X.n r1.X.c)).setCell ⟨gR, 26, none⟩ (.slice r1.S.A r1.S.n r1.S.c)) gR 104 #[.int .i64 k, .int .i64 K, .int .i64 T, .int .i64 M, .int .u64 r1.e, .int .u64 r1.f, .slice r1.L.A r1.L.n r1.L.c, .slice r1.P.A r1.P.n r1.P.c, .int .u64 r1.h, .int .u64 r1.t, .slice r1.K.A r1.K.n r1.K.c, .slice r1.X.A r1.X.n r1.X.c, .slice r1.S.A r1.S.n r1.S.c, .slice (some ⟨gO, 0, none⟩) T co, .slice (some ⟨gC, 0, none⟩) T cc, .slice (some ⟨gA, 0, none⟩) T ca, .slice sS.A sS.n sS.c, .slice sK.A sK.n sK.c, .int .u64 r1.e, .int .u64 r1.f, .slice r1.L.A r1.L.n r1.L.c, .slice r1.P.A r1.P.n r1.P.c, .int .u64 r1.h, .int .u64 r1.t, .slice r1.K.A r1.K.n r1.K.c, .slice r1.X.A r1.X.n r1.X.c, .slice r1.S.A r1.S.n r1.S.c]) := lh (by
     have h_ := (Blk.set_ (Blk.set_ (Blk.set_ (Blk.set_ (Blk.set_ (Blk.set_ (Blk.set_ (Blk.set_ (Blk.set_ I3.out.hR 18 (.int .u64 r1.e)) 19 (.int .u64 r1.f)) 20 (.slice r1.L.A r1.L.n r1.L.c)) 21 (.slice r1.P.A r1.P.n r1.P.c)) 22 (.int .u64 r1.h)) 23 (.int .u64 r1.t)) 24 (.slice r1.K.A r1.K.n r1.K.c)) 25 (.slice r1.X.A r1.X.n r1.X.c)) 26 (.slice r1.S.A r1.S.n r1.S.c))
     simpa only [uA, sZ, uC] using h_)
   have Y4 := lh (Blk.only Y3.out O4.out (Blk.ne Y3.out I3.out.hR (by decide)))
   clear hr3 hr3f
   generalize (((((((((wr.setCell ⟨gR, 18, none⟩ (.int .u64 r1.e)).setCell ⟨gR, 19, none⟩ (.int .u64 r1.f)).setCell ⟨gR, 20, none⟩ (.slice r1.L.A r1.L.n r1.L.c)).setCell ⟨gR, 21, none⟩ (.slice r1.P.A r1.P.n r1.P.c)).setCell ⟨gR, 22, none⟩ (.int .u64 r1.h)).setCell ⟨gR, 23, none⟩ (.int .u64 r1.t)).setCell ⟨gR, 24, none⟩ (.slice r1.K.A r1.K.n r1.K.c)).setCell ⟨gR, 25, none⟩ (.slice r1.X.A r1.X.n r1.X.c)).setCell ⟨gR, 26, none⟩ (.slice r1.S.A r1.S.n r1.S.c)) = V4 at O4 R4 Y4 ⊢
   have hr4 := R4.out.cell
   have hy4 := Y4.out.cell
   have hy4f := Y4.out.frozen
   go_wp2
   have O5 : Hid (Only (fun g => g = w.heap.size + 1) V4 (((((((((((V4.setCell ⟨w.heap.size + 1, 0, none⟩ (.slice sS.A sS.n sS.c)).setCell ⟨w.heap.size + 1, 1, none⟩ (.slice sK.A sK.n sK.c)).setCell ⟨w.heap.size + 1, 2, none⟩ (.int .u64 r1.e)).setCell ⟨w.heap.size + 1, 3, none⟩ (.int .u64 r1.f)).setCell ⟨w.heap.size + 1, 4, none⟩ (.slice r1.L.A r1.L.n r1.L.c)).setCell ⟨w.heap.size + 1, 5, none⟩ (.slice r1.P.A r1.P.n r1.P.c)).setCell ⟨w.heap.size + 1, 6, none⟩ (.int .u64 r1.h)).setCell ⟨w.heap.size + 1, 7, none⟩ (.int .u64 r1.t)).setCell ⟨w.heap.size + 1, 8, none⟩ (.slice r1.K.A r1.K.n r1.K.c)).setCell ⟨w.heap.size + 1, 9, none⟩ (.slice r1.X.A r1.X.n r1.X.c)).setCell ⟨w.heap.size + 1, 10, none⟩ (.slice r1.S.A r1.S.n r1.S.c))) := lh (Only.set_ (Only.set_ (Only.set_ (Only.set_ (Only.set_ (Only.set_ (Only.set_ (Only.set_ (Only.set_ (Only.set_ (Only.set_ (Only.refl (fun g => g = w.heap.size + 1) V4) ⟨w.heap.size + 1, 0, none⟩ (.inl rfl) (.slice sS.A sS.n sS.c)) ⟨w.heap.size + 1, 1, none⟩ (.inl rfl) (.slice sK.A sK.n sK.c)) ⟨w.heap.size + 1, 2, none⟩ (.inl rfl) (.int .u64 r1.e)) ⟨w.heap.size + 1, 3, none⟩ (.inl rfl) (.int .u64 r1.f)) ⟨w.heap.size + 1, 4, none⟩ (.inl rfl) (.slice r1.L.A r1.L.n r1.L.c)) ⟨w.heap.size + 1, 5, none⟩ (.inl rfl) (.slice r1.P.A r1.P.n r1.P.c)) ⟨w.heap.size + 1, 6, none⟩ (.inl rfl) (.int .u64 r1.h)) ⟨w.heap.size + 1, 7, none⟩ (.inl rfl) (.int .u64 r1.t)) ⟨w.heap.size + 1, 8, none⟩ (.inl rfl) (.slice r1.K.A r1.K.n r1.K.c)) ⟨w.heap.size + 1, 9, none⟩ (.inl rfl) (.slice r1.X.A r1.X.n r1.X.c)) ⟨w.heap.size + 1, 10, none⟩ (.inl rfl) (.slice r1.S.A r1.S.n r1.S.c))
   have Y5 : Hid (Blk (((((((((((V4.setCell ⟨w.heap.size + 1, 0, none⟩ (.slice sS.A sS.n sS.c)).setCell ⟨w.heap.size + 1, 1, none⟩ (.slice sK.A sK.n sK.c)).setCell ⟨w.heap.size + 1, 2, none⟩ (.int .u64 r1.e)).setCell ⟨w.heap.size + 1, 3, none⟩ (.int .u64 r1.f)).setCell ⟨w.heap.size + 1, 4, none⟩ (.slice r1.L.A r1.L.n r1.L.c)).setCell ⟨w.heap.size + 1, 5, none⟩ (.slice r1.P.A r1.P.n r1.P.c)).setCell ⟨w.heap.size + 1, 6, none⟩ (.int .u64 r1.h)).setCell ⟨w.heap.size + 1, 7, none⟩ (.int .u64 r1.t)).setCell ⟨w.heap.size + 1, 8, none⟩ (.slice r1.K.A r1.K.n r1.K.c)).setCell ⟨w.heap.size + 1, 9, none⟩ (.slice r1.X.A r1.X.n r1.X.c)).setCell ⟨w.heap.size + 1, 10, none⟩ (.slice r1.S.A r1.S.n r1.S.c)) (w.heap.size + 1) 35 #[.slice sS.A sS.n sS.c, .slice sK.A sK.n sK.c, .int .u64 r1.e, .int .u64 r1.f, .slice r1.L.A r1.L.n r1.L.c, .slice r1.P.A r1.P.n r1.P.c, .int .u64 r1.h, .int .u64 r1.t, .slice r1.K.A r1.K.n r1.K.c, .slice r1.X.A r1.X.n r1.X.c, .slice r1.S.A r1.S.n r1.S.c]) := lh (by
     have h_ := (Blk.set_ (Blk.set_ (Blk.set_ (Blk.set_ (Blk.set_ (Blk.set_ (Blk.set_ (Blk.set_ (Blk.set_ (Blk.set_ (Blk.set_ Y4.out 0 (.slice sS.A sS.n sS.c)) 1 (.slice sK.A sK.n sK.c)) 2 (.int .u64 r1.e)) 3 (.int .u64 r1.f)) 4 (.slice r1.L.A r1.L.n r1.L.c)) 5 (.slice r1.P.A r1.P.n r1.P.c)) 6 (.int .u64 r1.h)) 7 (.int .u64 r1.t)) 8 (.slice r1.K.A r1.K.n r1.K.c)) 9 (.slice r1.X.A r1.X.n r1.X.c)) 10 (.slice r1.S.A r1.S.n r1.S.c))
     simpa only [uA, sZ, uC] using h_)
   clear hr4 hy4 hy4f
   generalize (((((((((((V4.setCell ⟨w.heap.size + 1, 0, none⟩ (.slice sS.A sS.n sS.c)).setCell ⟨w.heap.size + 1, 1, none⟩ (.slice sK.A sK.n sK.c)).setCell ⟨w.heap.size + 1, 2, none⟩ (.int .u64 r1.e)).setCell ⟨w.heap.size + 1, 3, none⟩ (.int .u64 r1.f)).setCell ⟨w.heap.size + 1, 4, none⟩ (.slice r1.L.A r1.L.n r1.L.c)).setCell ⟨w.heap.size + 1, 5, none⟩ (.slice r1.P.A r1.P.n r1.P.c)).setCell ⟨w.heap.size + 1, 6, none⟩ (.int .u64 r1.h)).setCell ⟨w.heap.size + 1, 7, none⟩ (.int .u64 r1.t)).setCell ⟨w.heap.size + 1, 8, none⟩ (.slice r1.K.A r1.K.n r1.K.c)).setCell ⟨w.heap.size + 1, 9, none⟩ (.slice r1.X.A r1.X.n r1.X.c)).setCell ⟨w.heap.size + 1, 10, none⟩ (.slice r1.S.A r1.S.n r1.S.c)) = V5 at O5 Y5 ⊢
   have SE2 : s1 = runM Z ls (RS.first (newM k K T M) T) ps := by
     have h_ := SE.out
     rw [List.take_of_length_le (by have := HPL.out; omega)] at h_
     exact h_
   have HO : Only (fun g => g = gR \/ g = w.heap.size + 1) wr V5 := Only.next (O4.out.mono (fun g hg => .inl hg)) O5.out (fun k_ _ e => .inr e)
   have hbs := BS.out
   have hne : ∀ {E : TypeId} {size n : Nat} {q : Sl} {xs : List Value}, Row wr base E size q n xs -> E ≠ 104 -> ∀ g, bl q g -> ¬ (g = gR \/ g = w.heap.size + 1) := fun hr he g hg e => by
     rcases e with e | e
     · exact hr.ne I3.out.hR he g hg e
     · have := (hr.lt hg).1; omega
   have hS5 := I3.out.hS.only HO (hne I3.out.hS (by decide))
   have hK5 := I3.out.hK.only HO (hne I3.out.hK (by decide))
   have hm5 : Rm V5 V5.heap.size r1 s1.m := Rm.only I3.out.hm HO (Nat.le_refl _) (fun b hb => by
     rcases hb with e | e
     · exact I3.out.offm b (.inl e)
     · exact I3.out.offb b (by omega))
   rw [<- SE2]
   refine bodyPost_ret (results_cell2 (a := 6) (b := 7) Tryz.results22 rfl (resTr Y5.out rfl)) rfl ?_
   exact ⟨r1, sS, sK, base, rfl, hm5, I3.out.offb, hS5, hK5, RK.out.steps, by omega, W3.out.trans (HO.below W3.out.size (fun g hg => by
     rcases hg with e | e
     · have := I3.out.low.2.1; omega
     · omega))⟩

end Go.Proofs.YtffppdcpiieapaaGreat.Machc
