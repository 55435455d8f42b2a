/- A part of the proof. -/
import Derived.Lib.SliceRun
import Derived.Deep.RegionHeld3
import Derived.Deep.DrawnRows
import Derived.Test.YtffppdcpiieapaaGreatP3
import Derived.Test.YtffppdcpiieapaaGreatP4
namespace Go.Proofs.YtffppdcpiieapaaGreat.Storec
open Go.RowKit Memc
set_option linter.unusedVariables false
set_option maxRecDepth 100000

theorem find_yes (base g : Nat) (r : R) (m : M) (cap : Addr) (a i : Int) (w : World) (hc : w.cell? cap = some (.pointer (some ⟨g, 0, none⟩))) (H : Hold w base g r m)
   (ha : -9223372036854775808 <= a) (ha' : a <= 9223372036854775807) (ht : there m a i) :
   Calls Tryz.prog 98 #[.int .i64 a, .int .i64 i, .pointer (some cap)] w fun e w' => ∃ p : Addr, e = .returned (.pointer (some p)) /\ Lens w base g r m a i (some p) /\ w = w' :=
 (find_c base g r m cap a i w hc H ha ha').mono fun e w' ⟨q, he, hl, hw⟩ => by
   rcases q with _ | p
   · exact absurd ht hl
   · exact ⟨p, he, hl, hw⟩
theorem find_none (base g : Nat) (r : R) (m : M) (cap : Addr) (a i : Int) (w : World) (hc : w.cell? cap = some (.pointer (some ⟨g, 0, none⟩))) (H : Hold w base g r m)
   (ha : -9223372036854775808 <= a) (ha' : a <= 9223372036854775807) (ht : ¬ there m a i) :
   Calls Tryz.prog 98 #[.int .i64 a, .int .i64 i, .pointer (some cap)] w fun e w' => e = .returned (.pointer none) /\ w = w' :=
 (find_c base g r m cap a i w hc H ha ha').mono fun e w' ⟨q, he, hl, hw⟩ => by
   rcases q with _ | p
   · exact ⟨he, hw⟩
   · exact absurd hl.1 ht

def clo (cap : Addr) : Value := .func (.func 98) #[] #[.pointer (some cap)]
def Acc.v (c : Acc) : Value := .agg #[.int .i64 c.d, .int .i64 c.ar, .int .i64 c.at_, .int .u64 c.old, .int .u64 c.new]

def Others (w w' : World) : Prop := ∀ (k : Nat) (t : TypeId) (cs : Array Value), Blk w k t cs -> t ≠ 33 -> t ≠ 30 -> Blk w' k t cs
theorem Others.alloc (w : World) (o : Obj) : Others w (w.alloc o) := fun k t cs h _ _ => h.alloc o
theorem Others.put_ {w : World} {o : Obj} {p : Addr} {v : Value} (h : Kin (w.alloc o) p.block) : Others w ((w.alloc o).setCell p v) := fun k t cs hk h1 h2 =>
 (hk.alloc o).far (h.ne_ (hk.alloc o) h1 h2) v

def Did (w : World) (base g : Nat) (m : M) (c : Acc) (e : Ending) (w' : World) : Prop :=
 (∃ r', Hold w' base g r' (acc m c).1) /\ e = .returned (.tuple #[.int .u64 (acc m c).2.1, .bool (acc m c).2.2]) /\ Below base w w' /\ Others w w'

set_option maxHeartbeats 1000000 in
theorem access_none (base g : Nat) (r : R) (m : M) (cap : Addr) (d ar at_ old new : Int) (w : World) (hc : w.cell? cap = some (.pointer (some ⟨g, 0, none⟩))) (hcb : cap.block < w.heap.size) (H : Hold w base g r m)
   (hb : base <= w.heap.size) (ha : -9223372036854775808 <= ar) (ha' : ar <= 9223372036854775807) (ht : ¬ there m ar at_) :
   Calls Tryz.prog 90 #[.func (.func 98) #[] #[.pointer (some cap)], .agg #[.int .i64 d, .int .i64 ar, .int .i64 at_, .int .u64 old, .int .u64 new]] w
     (fun e w' => Hold w' base g r m /\ e = .returned (.tuple #[.int .u64 0, .bool false]) /\ Below base w w' /\ Others w w') := by
 have HT := lh ht
 clear ht
 go_enter Tryz.func90, Tryz.ntmps90
 go_wp2_with (go_at_call 98; refine (find_none base g r m cap _ _ _ (by go_simp) (H.alloc _) (by omega) (by omega) HT.out).mono ?_; rintro e w' ⟨rfl, rfl⟩)
 go_ret2
 exact ⟨H.alloc _, rfl, (Below.refl _ _).alloc hb _, Others.alloc _ _⟩

set_option maxHeartbeats 1000000 in
theorem access_other (base g : Nat) (r : R) (m : M) (cap : Addr) (d ar at_ old new : Int) (w : World) (hc : w.cell? cap = some (.pointer (some ⟨g, 0, none⟩))) (hcb : cap.block < w.heap.size) (H : Hold w base g r m)
   (hb : base <= w.heap.size) (ha : -9223372036854775808 <= ar) (ha' : ar <= 9223372036854775807) (ht : there m ar at_) (hd : d < 1 \/ 3 < d) :
   Calls Tryz.prog 90 #[.func (.func 98) #[] #[.pointer (some cap)], .agg #[.int .i64 d, .int .i64 ar, .int .i64 at_, .int .u64 old, .int .u64 new]] w
     (fun e w' => Hold w' base g r m /\ e = .returned (.tuple #[.int .u64 0, .bool false]) /\ Below base w w' /\ Others w w') := by
 have HT := lh ht
 clear ht
 have e1 : (d == 1) = false := by simp; omega
 have e2 : (d == 2) = false := by simp; omega
 have e3 : (d == 3) = false := by simp; omega
 clear hd
 go_enter Tryz.func90, Tryz.ntmps90
 go_wp2_with (go_at_call 98; refine (find_yes base g r m cap _ _ _ (by go_simp) (H.alloc _) (by omega) (by omega) HT.out).mono ?_; rintro e w' ⟨p, rfl, ⟨_, hpb, hpl, hpc, hpf, hpk, hpS⟩, rfl⟩; have HK := lh hpk; clear hpk)
 go_ret2
 exact ⟨H.alloc _, rfl, (Below.refl _ _).alloc hb _, Others.alloc _ _⟩

set_option maxHeartbeats 1000000 in
theorem access_read (base g : Nat) (r : R) (m : M) (cap : Addr) (ar at_ old new : Int) (w : World) (hc : w.cell? cap = some (.pointer (some ⟨g, 0, none⟩))) (hcb : cap.block < w.heap.size) (H : Hold w base g r m)
   (hb : base <= w.heap.size) (ha : -9223372036854775808 <= ar) (ha' : ar <= 9223372036854775807) (ht : there m ar at_) :
   Calls Tryz.prog 90 #[.func (.func 98) #[] #[.pointer (some cap)], .agg #[.int .i64 1, .int .i64 ar, .int .i64 at_, .int .u64 old, .int .u64 new]] w
     (fun e w' => Hold w' base g r m /\ e = .returned (.tuple #[.int .u64 (get m ar at_), .bool false]) /\ Below base w w' /\ Others w w') := by
 have HT := lh ht
 clear ht
 go_enter Tryz.func90, Tryz.ntmps90
 go_wp2_with (go_at_call 98; refine (find_yes base g r m cap _ _ _ (by go_simp) (H.alloc _) (by omega) (by omega) HT.out).mono ?_; rintro e w' ⟨p, rfl, ⟨_, hpb, hpl, hpc, hpf, hpk, hpS⟩, rfl⟩; have HK := lh hpk; clear hpk)
 go_ret2
 exact ⟨H.alloc _, rfl, (Below.refl _ _).alloc hb _, Others.alloc _ _⟩

set_option maxHeartbeats 1000000 in
theorem access_write (base g : Nat) (r : R) (m : M) (cap : Addr) (ar at_ old new : Int) (w : World) (hc : w.cell? cap = some (.pointer (some ⟨g, 0, none⟩))) (hcb : cap.block < w.heap.size) (H : Hold w base g r m)
   (hb : base <= w.heap.size) (ha : -9223372036854775808 <= ar) (ha' : ar <= 9223372036854775807) (ht : there m ar at_) (hv0 : 0 <= new /\ new <= 18446744073709551615) :
   Calls Tryz.prog 90 #[.func (.func 98) #[] #[.pointer (some cap)], .agg #[.int .i64 2, .int .i64 ar, .int .i64 at_, .int .u64 old, .int .u64 new]] w
     (fun e w' => (∃ r', Hold w' base g r' (set m ar at_ new)) /\ e = .returned (.tuple #[.int .u64 (get m ar at_), .bool true]) /\ Below base w w' /\ Others w w') := by
 have HT := lh ht
 clear ht
 have hv : Hid (0 <= new /\ new <= 18446744073709551615) := hv0
 clear hv0
 go_enter Tryz.func90, Tryz.ntmps90
 go_wp2_with (go_at_call 98; refine (find_yes base g r m cap _ _ _ (by go_simp) (H.alloc _) (by omega) (by omega) HT.out).mono ?_; rintro e w' ⟨p, rfl, ⟨_, hpb, hpl, hpc, hpf, hpk, hpS⟩, rfl⟩; have HK := lh hpk; clear hpk)
 go_ret2
 exact ⟨hpS _ (H.alloc _) new hv.out, rfl, ((Below.refl _ _).alloc hb _).setCell hpb _, Others.put_ HK.out⟩

set_option maxHeartbeats 1000000 in
theorem access_swap (base g : Nat) (r : R) (m : M) (cap : Addr) (ar at_ old new : Int) (w : World) (hc : w.cell? cap = some (.pointer (some ⟨g, 0, none⟩))) (hcb : cap.block < w.heap.size) (H : Hold w base g r m)
   (hb : base <= w.heap.size) (ha : -9223372036854775808 <= ar) (ha' : ar <= 9223372036854775807) (ht : there m ar at_) (hv0 : 0 <= new /\ new <= 18446744073709551615) (he : get m ar at_ = old) :
   Calls Tryz.prog 90 #[.func (.func 98) #[] #[.pointer (some cap)], .agg #[.int .i64 3, .int .i64 ar, .int .i64 at_, .int .u64 old, .int .u64 new]] w
     (fun e w' => (∃ r', Hold w' base g r' (set m ar at_ new)) /\ e = .returned (.tuple #[.int .u64 (get m ar at_), .bool true]) /\ Below base w w' /\ Others w w') := by
 have HT := lh ht
 clear ht
 have hv : Hid (0 <= new /\ new <= 18446744073709551615) := hv0
 clear hv0
 have e1 : (get m ar at_ != old) = false := by simp [he]
 clear he
 go_enter Tryz.func90, Tryz.ntmps90
 go_wp2_with (go_at_call 98; refine (find_yes base g r m cap _ _ _ (by go_simp) (H.alloc _) (by omega) (by omega) HT.out).mono ?_; rintro e w' ⟨p, rfl, ⟨_, hpb, hpl, hpc, hpf, hpk, hpS⟩, rfl⟩; have HK := lh hpk; clear hpk)
 go_ret2
 exact ⟨hpS _ (H.alloc _) new hv.out, rfl, ((Below.refl _ _).alloc hb _).setCell hpb _, Others.put_ HK.out⟩

set_option maxHeartbeats 1000000 in
theorem access_stays (base g : Nat) (r : R) (m : M) (cap : Addr) (ar at_ old new : Int) (w : World) (hc : w.cell? cap = some (.pointer (some ⟨g, 0, none⟩))) (hcb : cap.block < w.heap.size) (H : Hold w base g r m)
   (hb : base <= w.heap.size) (ha : -9223372036854775808 <= ar) (ha' : ar <= 9223372036854775807) (ht : there m ar at_) (he : ¬ get m ar at_ = old) :
   Calls Tryz.prog 90 #[.func (.func 98) #[] #[.pointer (some cap)], .agg #[.int .i64 3, .int .i64 ar, .int .i64 at_, .int .u64 old, .int .u64 new]] w
     (fun e w' => Hold w' base g r m /\ e = .returned (.tuple #[.int .u64 (get m ar at_), .bool false]) /\ Below base w w' /\ Others w w') := by
 have HT := lh ht
 clear ht
 have e1 : (get m ar at_ != old) = true := by simp [he]
 clear he
 go_enter Tryz.func90, Tryz.ntmps90
 go_wp2_with (go_at_call 98; refine (find_yes base g r m cap _ _ _ (by go_simp) (H.alloc _) (by omega) (by omega) HT.out).mono ?_; rintro e w' ⟨p, rfl, ⟨_, hpb, hpl, hpc, hpf, hpk, hpS⟩, rfl⟩; have HK := lh hpk; clear hpk)
 go_ret2
 exact ⟨H.alloc _, rfl, (Below.refl _ _).alloc hb _, Others.alloc _ _⟩

theorem access_c (base g : Nat) (r : R) (m : M) (cap : Addr) (c : Acc) (w : World) (hc : w.cell? cap = some (.pointer (some ⟨g, 0, none⟩))) (hcb : cap.block < w.heap.size) (H : Hold w base g r m)
   (hb : base <= w.heap.size) (hk : c.ok) :
   Calls Tryz.prog 90 #[.func (.func 98) #[] #[.pointer (some cap)], .agg #[.int .i64 c.d, .int .i64 c.ar, .int .i64 c.at_, .int .u64 c.old, .int .u64 c.new]] w (Did w base g m c) := by
 obtain ⟨d, ar, at_, old, new⟩ := c
 obtain ⟨⟨k1, k2⟩, ⟨k3, k4⟩, ⟨k5, k6⟩, k7, k8⟩ := hk
 by_cases ht : there m ar at_
 · by_cases h1 : d < 1 \/ 3 < d
   · refine (access_other base g r m cap d ar at_ old new w hc hcb H hb k3 k4 ht h1).mono fun e w' ⟨h, he, hw⟩ => ?_
     have e1 : acc m ⟨d, ar, at_, old, new⟩ = (m, 0, false) := by unfold acc; rw [if_neg (by simp only; omega)]
     exact ⟨by rw [e1]; exact ⟨r, h⟩, by rw [e1]; exact he, hw⟩
   · rcases (show d = 1 \/ d = 2 \/ d = 3 by omega) with rfl | rfl | rfl
     · refine (access_read base g r m cap ar at_ old new w hc hcb H hb k3 k4 ht).mono fun e w' ⟨h, he, hw⟩ => ?_
       have e1 : acc m ⟨1, ar, at_, old, new⟩ = (m, get m ar at_, false) := by unfold acc; rw [if_pos ⟨ht, by simp⟩, if_pos (.inl rfl)]
       exact ⟨by rw [e1]; exact ⟨r, h⟩, by rw [e1]; exact he, hw⟩
     · refine (access_write base g r m cap ar at_ old new w hc hcb H hb k3 k4 ht k8).mono fun e w' ⟨h, he, hw⟩ => ?_
       have e1 : acc m ⟨2, ar, at_, old, new⟩ = (set m ar at_ new, get m ar at_, true) := by unfold acc; rw [if_pos ⟨ht, by simp⟩, if_neg (by simp)]
       exact ⟨by rw [e1]; exact h, by rw [e1]; exact he, hw⟩
     · by_cases he : get m ar at_ = old
       · refine (access_swap base g r m cap ar at_ old new w hc hcb H hb k3 k4 ht k8 he).mono fun e w' ⟨h, he', hw⟩ => ?_
         have e1 : acc m ⟨3, ar, at_, old, new⟩ = (set m ar at_ new, get m ar at_, true) := by unfold acc; rw [if_pos ⟨ht, by simp⟩, if_neg (by simp [he])]
         exact ⟨by rw [e1]; exact h, by rw [e1]; exact he', hw⟩
       · refine (access_stays base g r m cap ar at_ old new w hc hcb H hb k3 k4 ht he).mono fun e w' ⟨h, he', hw⟩ => ?_
         have e1 : acc m ⟨3, ar, at_, old, new⟩ = (m, get m ar at_, false) := by unfold acc; rw [if_pos ⟨ht, by simp⟩, if_pos (.inr ⟨rfl, he⟩)]
         exact ⟨by rw [e1]; exact ⟨r, h⟩, by rw [e1]; exact he', hw⟩
 · refine (access_none base g r m cap d ar at_ old new w hc hcb H hb k3 k4 ht).mono fun e w' ⟨h, he, hw⟩ => ?_
   have e1 : acc m ⟨d, ar, at_, old, new⟩ = (m, 0, false) := by unfold acc; rw [if_neg (fun hh => ht hh.1)]
   exact ⟨by rw [e1]; exact ⟨r, h⟩, by rw [e1]; exact he, hw⟩
end Go.Proofs.YtffppdcpiieapaaGreat.Storec

namespace Go.Proofs.YtffppdcpiieapaaGreat.Storec
open Go.RowKit Memc
set_option linter.unusedVariables false
set_option maxRecDepth 100000

theorem u64_info : (Tryz.prog.info? 30).map (fun i => (i.zero, i.size, i.bytes)) = some (some (.int .u64 0), 1, 8) := by kernel_rfl

def Fresh (w : World) (xs : List Int) (e : Ending) (w' : World) : Prop :=
 ∃ s : Sl, e = .returned (.slice s.A s.n s.c) /\ Own w' w.heap.size s xs /\ Below w.heap.size w w'

theorem oneCell_ints (xs : List Int) : ∀ u ∈ xs.map (Value.int .u64), u.oneCell' = true := by
 intro u hu
 obtain ⟨x, _, rfl⟩ := List.mem_map.1 hu
 rfl

theorem own_new {w w' : World} {v : Value} {n : Nat} {xs : List Int} (hu : u64s xs) (hn : n = xs.length) (h : w'.ownsRow w.heap.size 30 1 v n ([] ++ xs.map (Value.int .u64))) (hb : Below w.heap.size w w') :
   Fresh w xs (.returned v) w' := by
 subst hn
 rcases h.2 with ⟨hv, _⟩ | ⟨g, cap, cur, hv, _⟩
 · exact ⟨⟨none, 0, 0⟩, by rw [hv], ⟨hu, by rw [hv] at h; simpa using h⟩, hb⟩
 · exact ⟨⟨some ⟨g, 0, none⟩, xs.length, cap⟩, by rw [hv], ⟨hu, by rw [hv] at h; simpa using h⟩, hb⟩

set_option maxHeartbeats 1000000 in
theorem clone_nil (w : World) (n c : Nat) :
   Calls Tryz.prog 97 #[.slice none n c] w fun e w' => e = .returned (.slice none 0 0) /\ w = w' := by
 have hq := fun (W : World) (A : Option Addr) (n c n' c' : Nat) => Lib.run_eql_slice_nil (P := Tryz.prog) W 31 30 A n c n' c' Tryz.underlying31
 go_enter Tryz.func97, Tryz.ntmps97
 go_wp2
 go_ret
 exact ⟨rfl, rfl⟩

set_option maxHeartbeats 1000000 in
theorem clone_some (w : World) (B : Nat) (ad : Addr) (n c : Nat) (xs : List Int) (h : Rd w B ⟨some ad, n, c⟩ xs) (hB : B <= w.heap.size) (hm : xs.length <= 1000000) :
   Calls Tryz.prog 97 #[.slice (some ad) n c] w (Fresh w xs) := by
 have hq := fun (W : World) (A : Option Addr) (n c n' c' : Nat) => Lib.run_eql_slice_nil (P := Tryz.prog) W 31 30 A n c n' c' Tryz.underlying31
 obtain ⟨i0, hi0, hz0, hz1, hz2⟩ := info_parts u64_info
 obtain ⟨hn, hnc, hcm, hu, _, hcells⟩ := h
 simp only at hn hnc hcm hcells
 subst hn
 have hnews : ∀ (j : Nat) (u : Value), (xs.map (Value.int .u64))[j]? = some u -> w.cell? (ad.add j) = some u := by
   intro j u hj
   rw [List.getElem?_map] at hj
   rcases hx : xs[j]? with _ | x
   · rw [hx] at hj; cases hj
   · rw [hx] at hj
     obtain ⟨ad', e, hb, hc⟩ := hcells (by have := (List.getElem?_eq_some_iff.1 hx).1; omega)
     injection e with e
     subst e
     rw [hc j x hx]; exact hj
 have hlow : ∀ (j : Nat) (u : Value), (xs.map (Value.int .u64))[j]? = some u -> ad.block < B := by
   intro j u hj
   have hl : j < (xs.map (Value.int .u64)).length := (List.getElem?_eq_some_iff.1 hj).1
   obtain ⟨ad', e, hb, hc⟩ := hcells (by simp at hl; omega)
   injection e with e
   subst e
   exact hb
 have HN : ∀ o : Obj, Hid (∀ (j : Nat) (u : Value), (xs.map (Value.int .u64))[j]? = some u -> (w.alloc o).cell? (ad.add j) = some u) := fun o j u hj =>
   (World.cell?_alloc_lt w o _ (by rw [block_of_add]; have := hlow j u hj; omega)).trans (hnews j u hj)
 have HU : Hid (u64s xs) := hu
 clear hnews hlow hcells hu
 go_enter Tryz.func97, Tryz.ntmps97
 go_wp2_with (at_builtin; refine wpList_append_own _ rfl _ _ 31 rfl w.heap.size 30 i0 _ 1 8 Tryz.underlying31 hi0 hz0 hz1 hz2 rfl (by omega) (.slice (some ⟨w.heap.size, 0, none⟩) 0 0) 0 [] rfl (World.ownsRow_made w _ 0 (Nat.le_refl _) (Nat.zero_le _) (by simp)) ad xs.length c (xs.map (Value.int .u64)) rfl (by simp) (HN _).out (oneCell_ints xs) (by unfold maxLen; omega) (by omega) (by simp) ?_; intro v1 w1 hown1 hg1 _)
 go_ret
 exact own_new HU.out (by simp) hown1 (((Below.refl _ _).alloc (Nat.le_refl _) _).grown hg1 (by simp) (by simp [Value.ownBlock]))

theorem clone_c (w : World) (B : Nat) (s : Sl) (xs : List Int) (h : Rd w B s xs) (hB : B <= w.heap.size) (hm : xs.length <= 1000000) :
   Calls Tryz.prog 97 #[.slice s.A s.n s.c] w (Fresh w xs) := by
 obtain ⟨A, n, c⟩ := s
 rcases A with _ | ad
 · refine (clone_nil w n c).mono fun e w' ⟨he, hw⟩ => ?_
   subst hw
   have hx : xs = [] := by
     have h1 : n = xs.length := h.1
     have h2 : c = 0 := h.2.2.2.2.1 rfl
     have h3 : n <= c := h.2.1
     exact List.eq_nil_of_length_eq_zero (by omega)
   subst hx
   exact ⟨⟨none, 0, 0⟩, he, ⟨u64s_nil, World.ownsRow_nil _ _ _ _⟩, Below.refl _ _⟩
 · exact clone_some w B ad n c xs h hB hm

def Copied (w : World) (m : M) (e : Ending) (w' : World) : Prop :=
 ∃ r : R, e = .returned (.agg #[.int .u64 r.e, .int .u64 r.f, .slice r.L.A r.L.n r.L.c, .slice r.P.A r.P.n r.P.c, .int .u64 r.h, .int .u64 r.t, .slice r.K.A r.K.n r.K.c, .slice r.X.A r.X.n r.X.c, .slice r.S.A r.S.n r.S.c]) /\
   (r.e = m.e /\ r.f = m.f /\ r.h = m.h /\ r.t = m.t) /\ Five w' w.heap.size r m /\ Below w.heap.size w w'

theorem five_mk {w : World} {base : Nat} {m : M} {e f h t : Int} {s1 s2 s3 s4 s5 : Sl} {n1 n2 n3 n4 : Nat}
   (o1 : Own w base s1 m.li) (o2 : Own w base s2 m.pi) (o3 : Own w base s3 m.lk) (o4 : Own w base s4 m.nx) (o5 : Own w base s5 m.sl)
   (i1 : ∀ ad, s1.A = some ad -> ad.block < n1) (i2 : ∀ ad, s2.A = some ad -> n1 <= ad.block /\ ad.block < n2) (i3 : ∀ ad, s3.A = some ad -> n2 <= ad.block /\ ad.block < n3)
   (i4 : ∀ ad, s4.A = some ad -> n3 <= ad.block /\ ad.block < n4) (i5 : ∀ ad, s5.A = some ad -> n4 <= ad.block) (l1 : n1 <= n2) (l2 : n2 <= n3) (l3 : n3 <= n4) :
   Five w base ⟨e, f, s1, s2, h, t, s3, s4, s5⟩ m := by
 constructor
 · intro a hl
   rcases hl with rfl | rfl | rfl | rfl | rfl
   · exact o1
   · exact o2
   · exact o3
   · exact o4
   · exact o5
 · intro a hl b hl' hne ad had ad' had'
   rcases hl with rfl | rfl | rfl | rfl | rfl <;> rcases hl' with rfl | rfl | rfl | rfl | rfl <;> first | exact absurd rfl hne | skip
   all_goals
     simp only [R.sl] at had had'
     first
       | (have := i1 _ had; have := i2 _ had'; omega) | (have := i1 _ had; have := i3 _ had'; omega) | (have := i1 _ had; have := i4 _ had'; omega) | (have := i1 _ had; have := i5 _ had'; omega)
       | (have := i2 _ had; have := i1 _ had'; omega) | (have := i2 _ had; have := i3 _ had'; omega) | (have := i2 _ had; have := i4 _ had'; omega) | (have := i2 _ had; have := i5 _ had'; omega)
       | (have := i3 _ had; have := i1 _ had'; omega) | (have := i3 _ had; have := i2 _ had'; omega) | (have := i3 _ had; have := i4 _ had'; omega) | (have := i3 _ had; have := i5 _ had'; omega)
       | (have := i4 _ had; have := i1 _ had'; omega) | (have := i4 _ had; have := i2 _ had'; omega) | (have := i4 _ had; have := i3 _ had'; omega) | (have := i4 _ had; have := i5 _ had'; omega)
       | (have := i5 _ had; have := i1 _ had'; omega) | (have := i5 _ had; have := i2 _ had'; omega) | (have := i5 _ had; have := i3 _ had'; omega) | (have := i5 _ had; have := i4 _ had'; omega)

structure Step (w W : World) (b c : Nat) (cs ds : Array Value) : Prop where
 below : Below w.heap.size w W
 box : Blk W b 33 cs
 res : Blk W c 33 ds
theorem Step.next {w W W' : World} {b c : Nat} {cs ds : Array Value} (h : Step w W b c cs ds) (hb : Below W.heap.size W W') (hbw : w.heap.size <= b) (i : Nat) (v : Value) (hne : b ≠ c) :
   Step w (W'.setCell ⟨b, i, none⟩ v) b c (cs.setIfInBounds i v) ds := by
 have hz := h.below.size
 refine ⟨(h.below.trans (hb.mono hz)).setCell hbw _, (h.box.below hb h.box.lt).set_ i v, (h.res.below hb h.res.lt).far (p := ⟨b, i, none⟩) (fun e => hne e.symm) v⟩



set_option maxHeartbeats 2000000 in
theorem copied_c (w : World) (B : Nat) (r : R) (m : M) (h : Rm w B r m) (hB : B <= w.heap.size) (hm : ∀ a, (m.area a).length <= 1000000) :
   Calls Tryz.prog 89 #[.agg #[.int .u64 r.e, .int .u64 r.f, .slice r.L.A r.L.n r.L.c, .slice r.P.A r.P.n r.P.c, .int .u64 r.h, .int .u64 r.t, .slice r.K.A r.K.n r.K.c, .slice r.X.A r.X.n r.X.c, .slice r.S.A r.S.n r.S.c]] w (Copied w m) := by
 have HR : Hid (Rm w w.heap.size r m) := h.more hB
 have HM : Hid (∀ a, (m.area a).length <= 1000000) := hm
 clear h hm hB
 have S0 : Step w ((w.alloc (.cells #[.int .u64 r.e, .int .u64 r.f, .slice r.L.A r.L.n r.L.c, .slice r.P.A r.P.n r.P.c, .int .u64 r.h, .int .u64 r.t, .slice r.K.A r.K.n r.K.c, .slice r.X.A r.X.n r.X.c, .slice r.S.A r.S.n r.S.c] 33)).alloc (.cells zM 33)) w.heap.size (w.heap.size + 1) #[.int .u64 r.e, .int .u64 r.f, .slice r.L.A r.L.n r.L.c, .slice r.P.A r.P.n r.P.c, .int .u64 r.h, .int .u64 r.t, .slice r.K.A r.K.n r.K.c, .slice r.X.A r.X.n r.X.c, .slice r.S.A r.S.n r.S.c] #[.int .u64 0, .int .u64 0, .slice none 0 0, .slice none 0 0, .int .u64 0, .int .u64 0, .slice none 0 0, .slice none 0 0, .slice none 0 0] :=
   ⟨((Below.refl _ _).alloc (Nat.le_refl _) _).alloc (by simp) _, (Blk.new _ _ _).alloc _, by simpa using Blk.new (w.alloc (.cells #[.int .u64 r.e, .int .u64 r.f, .slice r.L.A r.L.n r.L.c, .slice r.P.A r.P.n r.P.c, .int .u64 r.h, .int .u64 r.t, .slice r.K.A r.K.n r.K.c, .slice r.X.A r.X.n r.X.c, .slice r.S.A r.S.n r.S.c] 33)) 33 #[.int .u64 0, .int .u64 0, .slice none 0 0, .slice none 0 0, .int .u64 0, .int .u64 0, .slice none 0 0, .slice none 0 0, .slice none 0 0]⟩
 have HS0 := lh S0
 clear S0
 go_enter Tryz.func89, Tryz.ntmps89
 go_wp2_with fail
 refine (clone_c _ w.heap.size r.L m.li (HR.out.2.2.2.2.2.1.below HS0.out.below) HS0.out.below.size (HM.out 3)).mono ?_
 rintro e w1 ⟨s1, rfl, ho1, hb1⟩
 have HO1 := lh ho1
 have HB1 := lh hb1
 have S1 : Step w (w1.setCell ⟨w.heap.size, 2, none⟩ (.slice s1.A s1.n s1.c)) w.heap.size (w.heap.size + 1) #[.int .u64 r.e, .int .u64 r.f, .slice s1.A s1.n s1.c, .slice r.P.A r.P.n r.P.c, .int .u64 r.h, .int .u64 r.t, .slice r.K.A r.K.n r.K.c, .slice r.X.A r.X.n r.X.c, .slice r.S.A r.S.n r.S.c] #[.int .u64 0, .int .u64 0, .slice none 0 0, .slice none 0 0, .int .u64 0, .int .u64 0, .slice none 0 0, .slice none 0 0, .slice none 0 0] := HS0.out.next hb1 (Nat.le_refl _) 2 _ (by omega)
 have HS1 := lh S1
 clear S1
 obtain ⟨rb1, rc1⟩ := two_below hb1 HS0.out.box HS0.out.res
 obtain ⟨cb1, fb1, cc1, fc1⟩ := two_rules rb1 rc1
 clear rb1 rc1 ho1 hb1
 go_wp2_with fail
 refine (clone_c _ w.heap.size r.P m.pi (HR.out.2.2.2.2.2.2.1.below HS1.out.below) HS1.out.below.size (HM.out 4)).mono ?_
 rintro e w2 ⟨s2, rfl, ho2, hb2⟩
 have HO2 := lh ho2
 have HB2 := lh hb2
 have S2 : Step w (w2.setCell ⟨w.heap.size, 3, none⟩ (.slice s2.A s2.n s2.c)) w.heap.size (w.heap.size + 1) #[.int .u64 r.e, .int .u64 r.f, .slice s1.A s1.n s1.c, .slice s2.A s2.n s2.c, .int .u64 r.h, .int .u64 r.t, .slice r.K.A r.K.n r.K.c, .slice r.X.A r.X.n r.X.c, .slice r.S.A r.S.n r.S.c] #[.int .u64 0, .int .u64 0, .slice none 0 0, .slice none 0 0, .int .u64 0, .int .u64 0, .slice none 0 0, .slice none 0 0, .slice none 0 0] := HS1.out.next hb2 (Nat.le_refl _) 3 _ (by omega)
 have HS2 := lh S2
 clear S2
 obtain ⟨rb2, rc2⟩ := two_below hb2 HS1.out.box HS1.out.res
 obtain ⟨cb2, fb2, cc2, fc2⟩ := two_rules rb2 rc2
 clear rb2 rc2 ho2 hb2 cb1 fb1 cc1 fc1
 go_wp2_with fail
 refine (clone_c _ w.heap.size r.K m.lk (HR.out.2.2.2.2.2.2.2.1.below HS2.out.below) HS2.out.below.size (HM.out 7)).mono ?_
 rintro e w3 ⟨s3, rfl, ho3, hb3⟩
 have HO3 := lh ho3
 have HB3 := lh hb3
 have S3 : Step w (w3.setCell ⟨w.heap.size, 6, none⟩ (.slice s3.A s3.n s3.c)) w.heap.size (w.heap.size + 1) #[.int .u64 r.e, .int .u64 r.f, .slice s1.A s1.n s1.c, .slice s2.A s2.n s2.c, .int .u64 r.h, .int .u64 r.t, .slice s3.A s3.n s3.c, .slice r.X.A r.X.n r.X.c, .slice r.S.A r.S.n r.S.c] #[.int .u64 0, .int .u64 0, .slice none 0 0, .slice none 0 0, .int .u64 0, .int .u64 0, .slice none 0 0, .slice none 0 0, .slice none 0 0] := HS2.out.next hb3 (Nat.le_refl _) 6 _ (by omega)
 have HS3 := lh S3
 clear S3
 obtain ⟨rb3, rc3⟩ := two_below hb3 HS2.out.box HS2.out.res
 obtain ⟨cb3, fb3, cc3, fc3⟩ := two_rules rb3 rc3
 clear rb3 rc3 ho3 hb3 cb2 fb2 cc2 fc2
 go_wp2_with fail
 refine (clone_c _ w.heap.size r.X m.nx (HR.out.2.2.2.2.2.2.2.2.1.below HS3.out.below) HS3.out.below.size (HM.out 8)).mono ?_
 rintro e w4 ⟨s4, rfl, ho4, hb4⟩
 have HO4 := lh ho4
 have HB4 := lh hb4
 have S4 : Step w (w4.setCell ⟨w.heap.size, 7, none⟩ (.slice s4.A s4.n s4.c)) w.heap.size (w.heap.size + 1) #[.int .u64 r.e, .int .u64 r.f, .slice s1.A s1.n s1.c, .slice s2.A s2.n s2.c, .int .u64 r.h, .int .u64 r.t, .slice s3.A s3.n s3.c, .slice s4.A s4.n s4.c, .slice r.S.A r.S.n r.S.c] #[.int .u64 0, .int .u64 0, .slice none 0 0, .slice none 0 0, .int .u64 0, .int .u64 0, .slice none 0 0, .slice none 0 0, .slice none 0 0] := HS3.out.next hb4 (Nat.le_refl _) 7 _ (by omega)
 have HS4 := lh S4
 clear S4
 obtain ⟨rb4, rc4⟩ := two_below hb4 HS3.out.box HS3.out.res
 obtain ⟨cb4, fb4, cc4, fc4⟩ := two_rules rb4 rc4
 clear rb4 rc4 ho4 hb4 cb3 fb3 cc3 fc3
 go_wp2_with fail
 refine (clone_c _ w.heap.size r.S m.sl (HR.out.2.2.2.2.2.2.2.2.2.below HS4.out.below) HS4.out.below.size (HM.out 9)).mono ?_
 rintro e w5 ⟨s5, rfl, ho5, hb5⟩
 have HO5 := lh ho5
 have HB5 := lh hb5
 have S5 : Step w (w5.setCell ⟨w.heap.size, 8, none⟩ (.slice s5.A s5.n s5.c)) w.heap.size (w.heap.size + 1) #[.int .u64 r.e, .int .u64 r.f, .slice s1.A s1.n s1.c, .slice s2.A s2.n s2.c, .int .u64 r.h, .int .u64 r.t, .slice s3.A s3.n s3.c, .slice s4.A s4.n s4.c, .slice s5.A s5.n s5.c] #[.int .u64 0, .int .u64 0, .slice none 0 0, .slice none 0 0, .int .u64 0, .int .u64 0, .slice none 0 0, .slice none 0 0, .slice none 0 0] := HS4.out.next hb5 (Nat.le_refl _) 8 _ (by omega)
 have HS5 := lh S5
 clear S5
 obtain ⟨rb5, rc5⟩ := two_below hb5 HS4.out.box HS4.out.res
 obtain ⟨cb5, fb5, cc5, fc5⟩ := two_rules rb5 rc5
 clear rb5 rc5 ho5 hb5 cb4 fb4 cc4 fc4
 go_wp2
 refine bodyPost_ret (v := .agg #[.int .u64 r.e, .int .u64 r.f, .slice s1.A s1.n s1.c, .slice s2.A s2.n s2.c, .int .u64 r.h, .int .u64 r.t, .slice s3.A s3.n s3.c, .slice s4.A s4.n s4.c, .slice s5.A s5.n s5.c]) (by simp [results, Tryz.results89, go_sem, cc5]) rfl ?_
 have q0 := HS0.out.res.lt
 have q1 := HS1.out.res.lt
 have q2 := HS2.out.res.lt
 have q3 := HS3.out.res.lt
 have q4 := HS4.out.res.lt
 have o1_1 := HO1.out.step (i := 2) (b := w.heap.size) (by omega) (.slice s1.A s1.n s1.c)
 have o1_2 := (o1_1.below HB2.out (Nat.le_refl _)).step (i := 3) (b := w.heap.size) (by omega) (.slice s2.A s2.n s2.c)
 have o1_3 := (o1_2.below HB3.out (Nat.le_refl _)).step (i := 6) (b := w.heap.size) (by omega) (.slice s3.A s3.n s3.c)
 have o1_4 := (o1_3.below HB4.out (Nat.le_refl _)).step (i := 7) (b := w.heap.size) (by omega) (.slice s4.A s4.n s4.c)
 have o1_5 := (o1_4.below HB5.out (Nat.le_refl _)).step (i := 8) (b := w.heap.size) (by omega) (.slice s5.A s5.n s5.c)
 have i1 := fun ad had => HO1.out.lt (ad := ad) had
 have o2_2 := HO2.out.step (i := 3) (b := w.heap.size) (by omega) (.slice s2.A s2.n s2.c)
 have o2_3 := (o2_2.below HB3.out (Nat.le_refl _)).step (i := 6) (b := w.heap.size) (by omega) (.slice s3.A s3.n s3.c)
 have o2_4 := (o2_3.below HB4.out (Nat.le_refl _)).step (i := 7) (b := w.heap.size) (by omega) (.slice s4.A s4.n s4.c)
 have o2_5 := (o2_4.below HB5.out (Nat.le_refl _)).step (i := 8) (b := w.heap.size) (by omega) (.slice s5.A s5.n s5.c)
 have i2 := fun ad had => HO2.out.lt (ad := ad) had
 have o3_3 := HO3.out.step (i := 6) (b := w.heap.size) (by omega) (.slice s3.A s3.n s3.c)
 have o3_4 := (o3_3.below HB4.out (Nat.le_refl _)).step (i := 7) (b := w.heap.size) (by omega) (.slice s4.A s4.n s4.c)
 have o3_5 := (o3_4.below HB5.out (Nat.le_refl _)).step (i := 8) (b := w.heap.size) (by omega) (.slice s5.A s5.n s5.c)
 have i3 := fun ad had => HO3.out.lt (ad := ad) had
 have o4_4 := HO4.out.step (i := 7) (b := w.heap.size) (by omega) (.slice s4.A s4.n s4.c)
 have o4_5 := (o4_4.below HB5.out (Nat.le_refl _)).step (i := 8) (b := w.heap.size) (by omega) (.slice s5.A s5.n s5.c)
 have i4 := fun ad had => HO4.out.lt (ad := ad) had
 have o5_5 := HO5.out.step (i := 8) (b := w.heap.size) (by omega) (.slice s5.A s5.n s5.c)
 have i5 := fun ad had => HO5.out.lt (ad := ad) had
 have z1 := HB2.out.size
 have z2 := HB3.out.size
 have z3 := HB4.out.size
 have z4 := HB5.out.size
 rw [size_set] at z1 z2 z3 z4
 rw [size_set] at q1 q2 q3 q4
 simp only [size_set] at i2
 simp only [size_set] at i3
 simp only [size_set] at i4
 simp only [size_set] at i5
 refine ⟨⟨r.e, r.f, s1, s2, r.h, r.t, s3, s4, s5⟩, rfl, ⟨HR.out.1, HR.out.2.1, HR.out.2.2.1, HR.out.2.2.2.1⟩, ?_, below_nine HS5.out.below (by omega) _ _ _ _ _ _ _ _ _⟩
 refine five_mk (n1 := w1.heap.size) (n2 := w2.heap.size) (n3 := w3.heap.size) (n4 := w4.heap.size)
   ((o1_5.nine (by omega) _ _ _ _ _ _ _ _ _).weaken (by omega))
   ((o2_5.nine (by simp only [size_set]; omega) _ _ _ _ _ _ _ _ _).weaken (by simp only [size_set]; omega))
   ((o3_5.nine (by simp only [size_set]; omega) _ _ _ _ _ _ _ _ _).weaken (by simp only [size_set]; omega))
   ((o4_5.nine (by simp only [size_set]; omega) _ _ _ _ _ _ _ _ _).weaken (by simp only [size_set]; omega))
   ((o5_5.nine (by simp only [size_set]; omega) _ _ _ _ _ _ _ _ _).weaken (by simp only [size_set]; omega))
   (fun ad had => (i1 ad had).2) i2 i3 i4 (fun ad had => (i5 ad had).1) z1 z2 z3
end Go.Proofs.YtffppdcpiieapaaGreat.Storec

namespace Go.Proofs.YtffppdcpiieapaaGreat.Storec
open Go.RowKit Memc
set_option linter.unusedVariables false
set_option maxRecDepth 100000
attribute [local go_sem ↓] Go.wp_at_zero Go.wp_at_succ

theorem finder_c (p : Addr) (w : World) :
   Calls Tryz.prog 91 #[.pointer (some p)] w fun e w' => e = .returned (.func (.func 98) #[] #[.pointer (some ⟨w.heap.size, 0, none⟩)]) /\ w' = w.alloc (.cells #[.pointer (some p)] 152) := by
 have hmf : ∀ (fn : Fn) (first cap : Array Value) (w : World), (Instr.makeFunc fn first cap).run Tryz.prog w = .ok (.func fn first cap) w := fun _ _ _ _ => rfl
 go_enter Tryz.func91, Tryz.ntmps91
 go_wp2
 go_ret
 exact ⟨rfl, rfl⟩

def Done (w : World) (m : M) (c : Acc) (e : Ending) (w' : World) : Prop :=
 ∃ r : R, e = .returned (.tuple #[.agg #[.int .u64 r.e, .int .u64 r.f, .slice r.L.A r.L.n r.L.c, .slice r.P.A r.P.n r.P.c, .int .u64 r.h, .int .u64 r.t, .slice r.K.A r.K.n r.K.c, .slice r.X.A r.X.n r.X.c, .slice r.S.A r.S.n r.S.c], .int .u64 (acc m c).2.1, .bool (acc m c).2.2]) /\ Rm w' w'.heap.size r (acc m c).1 /\ Below w.heap.size w w'

def DoneOwn (w : World) (m : M) (c : Acc) (e : Ending) (w' : World) : Prop :=
 ∃ r : R, e = .returned (.tuple #[.agg #[.int .u64 r.e, .int .u64 r.f, .slice r.L.A r.L.n r.L.c, .slice r.P.A r.P.n r.P.c, .int .u64 r.h, .int .u64 r.t, .slice r.K.A r.K.n r.K.c, .slice r.X.A r.X.n r.X.c, .slice r.S.A r.S.n r.S.c], .int .u64 (acc m c).2.1, .bool (acc m c).2.2]) /\ Rm w' w'.heap.size r (acc m c).1 /\ Below w.heap.size w w' /\ ∀ a, la a -> Own w' w.heap.size (r.sl a) ((acc m c).1.area a)

set_option maxHeartbeats 4000000 in
theorem do_own (w : World) (B : Nat) (r : R) (m : M) (c : Acc) (h : Rm w B r m) (hB : B <= w.heap.size) (hm : ∀ a, (m.area a).length <= 1000000) (hc : c.ok) :
   Calls Tryz.prog 65 #[.agg #[.int .u64 r.e, .int .u64 r.f, .slice r.L.A r.L.n r.L.c, .slice r.P.A r.P.n r.P.c, .int .u64 r.h, .int .u64 r.t, .slice r.K.A r.K.n r.K.c, .slice r.X.A r.X.n r.X.c, .slice r.S.A r.S.n r.S.c], .agg #[.int .i64 c.d, .int .i64 c.ar, .int .i64 c.at_, .int .u64 c.old, .int .u64 c.new]] w (DoneOwn w m c) := by
 have HR : Hid (Rm w w.heap.size r m) := h.more hB
 have HM : Hid (∀ a, (m.area a).length <= 1000000) := hm
 have HC := lh hc
 clear h hm hB hc
 have b0 : Below w.heap.size w (((w.alloc (.cells #[.int .u64 r.e, .int .u64 r.f, .slice r.L.A r.L.n r.L.c, .slice r.P.A r.P.n r.P.c, .int .u64 r.h, .int .u64 r.t, .slice r.K.A r.K.n r.K.c, .slice r.X.A r.X.n r.X.c, .slice r.S.A r.S.n r.S.c] 33)).alloc (.cells #[.int .i64 c.d, .int .i64 c.ar, .int .i64 c.at_, .int .u64 c.old, .int .u64 c.new] 66)).alloc (.cells zM 33)) :=
   (((Below.refl _ _).alloc (Nat.le_refl _) _).alloc (by simp) _).alloc (by simp; omega) _
 have k1 : Blk (((w.alloc (.cells #[.int .u64 r.e, .int .u64 r.f, .slice r.L.A r.L.n r.L.c, .slice r.P.A r.P.n r.P.c, .int .u64 r.h, .int .u64 r.t, .slice r.K.A r.K.n r.K.c, .slice r.X.A r.X.n r.X.c, .slice r.S.A r.S.n r.S.c] 33)).alloc (.cells #[.int .i64 c.d, .int .i64 c.ar, .int .i64 c.at_, .int .u64 c.old, .int .u64 c.new] 66)).alloc (.cells zM 33)) (w.heap.size + 1) 66 #[.int .i64 c.d, .int .i64 c.ar, .int .i64 c.at_, .int .u64 c.old, .int .u64 c.new] := by
   simpa using (Blk.new (w.alloc (.cells #[.int .u64 r.e, .int .u64 r.f, .slice r.L.A r.L.n r.L.c, .slice r.P.A r.P.n r.P.c, .int .u64 r.h, .int .u64 r.t, .slice r.K.A r.K.n r.K.c, .slice r.X.A r.X.n r.X.c, .slice r.S.A r.S.n r.S.c] 33)) 66 #[.int .i64 c.d, .int .i64 c.ar, .int .i64 c.at_, .int .u64 c.old, .int .u64 c.new]).alloc (.cells zM 33)
 have k2 : Blk (((w.alloc (.cells #[.int .u64 r.e, .int .u64 r.f, .slice r.L.A r.L.n r.L.c, .slice r.P.A r.P.n r.P.c, .int .u64 r.h, .int .u64 r.t, .slice r.K.A r.K.n r.K.c, .slice r.X.A r.X.n r.X.c, .slice r.S.A r.S.n r.S.c] 33)).alloc (.cells #[.int .i64 c.d, .int .i64 c.ar, .int .i64 c.at_, .int .u64 c.old, .int .u64 c.new] 66)).alloc (.cells zM 33)) (w.heap.size + 1 + 1) 33 #[.int .u64 0, .int .u64 0, .slice none 0 0, .slice none 0 0, .int .u64 0, .int .u64 0, .slice none 0 0, .slice none 0 0, .slice none 0 0] := by
   simpa using Blk.new ((w.alloc (.cells #[.int .u64 r.e, .int .u64 r.f, .slice r.L.A r.L.n r.L.c, .slice r.P.A r.P.n r.P.c, .int .u64 r.h, .int .u64 r.t, .slice r.K.A r.K.n r.K.c, .slice r.X.A r.X.n r.X.c, .slice r.S.A r.S.n r.S.c] 33)).alloc (.cells #[.int .i64 c.d, .int .i64 c.ar, .int .i64 c.at_, .int .u64 c.old, .int .u64 c.new] 66)) 33 #[.int .u64 0, .int .u64 0, .slice none 0 0, .slice none 0 0, .int .u64 0, .int .u64 0, .slice none 0 0, .slice none 0 0, .slice none 0 0]
 have HB0 := lh b0
 have K1 := lh k1
 have K2 := lh k2
 clear b0 k1 k2
 go_enter Tryz.func65, Tryz.ntmps65
 go_wp2_with fail
 refine (copied_c _ w.heap.size r m (HR.out.below HB0.out) HB0.out.size HM.out).mono ?_
 rintro e w1 ⟨r1, rfl, hs1, hf1, hb1⟩
 have HS1 := lh hs1
 have HF1 := lh hf1
 have HB1 := lh hb1
 obtain ⟨x1, x2⟩ := two_below hb1 K1.out K2.out
 obtain ⟨cb, fb, cc, fc⟩ := two_rules x1 x2
 have X1 := lh x1
 have X2 := lh x2
 clear x1 x2 hs1 hf1 hb1
 have hh : Hold (((((((((w1.setCell ⟨w.heap.size + 1 + 1, 0, none⟩ (.int .u64 r1.e)).setCell ⟨w.heap.size + 1 + 1, 1, none⟩ (.int .u64 r1.f)).setCell ⟨w.heap.size + 1 + 1, 2, none⟩ (.slice r1.L.A r1.L.n r1.L.c)).setCell ⟨w.heap.size + 1 + 1, 3, none⟩ (.slice r1.P.A r1.P.n r1.P.c)).setCell ⟨w.heap.size + 1 + 1, 4, none⟩ (.int .u64 r1.h)).setCell ⟨w.heap.size + 1 + 1, 5, none⟩ (.int .u64 r1.t)).setCell ⟨w.heap.size + 1 + 1, 6, none⟩ (.slice r1.K.A r1.K.n r1.K.c)).setCell ⟨w.heap.size + 1 + 1, 7, none⟩ (.slice r1.X.A r1.X.n r1.X.c)).setCell ⟨w.heap.size + 1 + 1, 8, none⟩ (.slice r1.S.A r1.S.n r1.S.c)) (w.heap.size + 1 + 1) (w.heap.size + 1 + 1) r1 m := hold_nine X2.out HS1.out HR.out.2.2.2.2.1 HF1.out (Nat.le_refl _) (by simp)
 have hx : Blk (((((((((w1.setCell ⟨w.heap.size + 1 + 1, 0, none⟩ (.int .u64 r1.e)).setCell ⟨w.heap.size + 1 + 1, 1, none⟩ (.int .u64 r1.f)).setCell ⟨w.heap.size + 1 + 1, 2, none⟩ (.slice r1.L.A r1.L.n r1.L.c)).setCell ⟨w.heap.size + 1 + 1, 3, none⟩ (.slice r1.P.A r1.P.n r1.P.c)).setCell ⟨w.heap.size + 1 + 1, 4, none⟩ (.int .u64 r1.h)).setCell ⟨w.heap.size + 1 + 1, 5, none⟩ (.int .u64 r1.t)).setCell ⟨w.heap.size + 1 + 1, 6, none⟩ (.slice r1.K.A r1.K.n r1.K.c)).setCell ⟨w.heap.size + 1 + 1, 7, none⟩ (.slice r1.X.A r1.X.n r1.X.c)).setCell ⟨w.heap.size + 1 + 1, 8, none⟩ (.slice r1.S.A r1.S.n r1.S.c)) (w.heap.size + 1) 66 #[.int .i64 c.d, .int .i64 c.ar, .int .i64 c.at_, .int .u64 c.old, .int .u64 c.new] := blk_nine_far X1.out (by omega)
 have hbw : Below w.heap.size w (((((((((w1.setCell ⟨w.heap.size + 1 + 1, 0, none⟩ (.int .u64 r1.e)).setCell ⟨w.heap.size + 1 + 1, 1, none⟩ (.int .u64 r1.f)).setCell ⟨w.heap.size + 1 + 1, 2, none⟩ (.slice r1.L.A r1.L.n r1.L.c)).setCell ⟨w.heap.size + 1 + 1, 3, none⟩ (.slice r1.P.A r1.P.n r1.P.c)).setCell ⟨w.heap.size + 1 + 1, 4, none⟩ (.int .u64 r1.h)).setCell ⟨w.heap.size + 1 + 1, 5, none⟩ (.int .u64 r1.t)).setCell ⟨w.heap.size + 1 + 1, 6, none⟩ (.slice r1.K.A r1.K.n r1.K.c)).setCell ⟨w.heap.size + 1 + 1, 7, none⟩ (.slice r1.X.A r1.X.n r1.X.c)).setCell ⟨w.heap.size + 1 + 1, 8, none⟩ (.slice r1.S.A r1.S.n r1.S.c)) := below_nine (HB0.out.trans (HB1.out.mono HB0.out.size)) (by omega) _ _ _ _ _ _ _ _ _
 have HH := lh hh
 have HX := lh hx
 have HBW := lh hbw
 clear hh hx hbw
 go_wp2_with fail
 generalize (((((((((w1.setCell ⟨w.heap.size + 1 + 1, 0, none⟩ (.int .u64 r1.e)).setCell ⟨w.heap.size + 1 + 1, 1, none⟩ (.int .u64 r1.f)).setCell ⟨w.heap.size + 1 + 1, 2, none⟩ (.slice r1.L.A r1.L.n r1.L.c)).setCell ⟨w.heap.size + 1 + 1, 3, none⟩ (.slice r1.P.A r1.P.n r1.P.c)).setCell ⟨w.heap.size + 1 + 1, 4, none⟩ (.int .u64 r1.h)).setCell ⟨w.heap.size + 1 + 1, 5, none⟩ (.int .u64 r1.t)).setCell ⟨w.heap.size + 1 + 1, 6, none⟩ (.slice r1.K.A r1.K.n r1.K.c)).setCell ⟨w.heap.size + 1 + 1, 7, none⟩ (.slice r1.X.A r1.X.n r1.X.c)).setCell ⟨w.heap.size + 1 + 1, 8, none⟩ (.slice r1.S.A r1.S.n r1.S.c)) = W at HH HX HBW ⊢
 clear HB0 K1 K2 HS1 HF1 HB1 X1 X2 cb fb cc fc HR HM
 have hX := HX.out.cell
 have hzX := HX.out.lt
 have hzH := HH.out.1.lt
 have hne := World.new_ne W
 go_region_held3 (fun w' => w'.cell? ⟨w.heap.size + 1, 0, none⟩ = some (.int .i64 c.d) /\ w'.cell? ⟨w.heap.size + 1, 1, none⟩ = some (.int .i64 c.ar) /\ w'.cell? ⟨w.heap.size + 1, 2, none⟩ = some (.int .i64 c.at_) /\ w'.cell? ⟨w.heap.size + 1, 3, none⟩ = some (.int .u64 c.old) /\ w'.cell? ⟨w.heap.size + 1, 4, none⟩ = some (.int .u64 c.new)) (first | go_keep | exact cells5 (((HX.out.alloc _).drew.below hb2 (by omega))))
   (first | (go_at_call 91; refine (finder_c _ _).mono ?_; rintro e w' ⟨rfl, rfl⟩) | (go_at_call 90; refine (access_c (w.heap.size + 1 + 1) (w.heap.size + 1 + 1) r1 m ⟨W.heap.size, 0, none⟩ c _ (by go_simp) (by simp) (HH.out.alloc _).drew (by simp; omega) HC.out).mono ?_; rintro e w' ⟨⟨r2, hr2⟩, rfl, hb2, _⟩))
 have HR2 := lh hr2
 have HB2 := lh hb2
 have hc2 : ∀ i, w'.cell? ⟨w.heap.size + 1 + 1, i, none⟩ = (#[.int .u64 r2.e, .int .u64 r2.f, .slice r2.L.A r2.L.n r2.L.c, .slice r2.P.A r2.P.n r2.P.c, .int .u64 r2.h, .int .u64 r2.t, .slice r2.K.A r2.K.n r2.K.c, .slice r2.X.A r2.X.n r2.X.c, .slice r2.S.A r2.S.n r2.S.c] : Array Value)[i]? := hr2.1.cell
 have hf2 := hr2.1.frozen
 clear hr2 hb2
 go_wp2
 refine bodyPost_ret (v := .tuple #[.agg #[.int .u64 r2.e, .int .u64 r2.f, .slice r2.L.A r2.L.n r2.L.c, .slice r2.P.A r2.P.n r2.P.c, .int .u64 r2.h, .int .u64 r2.t, .slice r2.K.A r2.K.n r2.K.c, .slice r2.X.A r2.X.n r2.X.c, .slice r2.S.A r2.S.n r2.S.c], .int .u64 (acc m c).2.1, .bool (acc m c).2.2]) (by simp [results, Tryz.results65, go_sem, hc2]) rfl ?_
 exact ⟨r2, rfl, HR2.out.again.rm, below_nine (HBW.out.trans ((((Below.refl _ _).alloc (by have := HBW.out.size; omega) _).drew).trans (HB2.out.mono (by omega)))) (by omega) _ _ _ _ _ _ _ _ _, fun a hl => (HR2.out.again.2.2.2.2.2.2.2.1 a hl).weaken (by omega)⟩
end Go.Proofs.YtffppdcpiieapaaGreat.Storec

namespace Go.Proofs.YtffppdcpiieapaaGreat.Drivec
open Go.RowKit Memc Procc Storec
set_option linter.unusedVariables false
set_option maxRecDepth 100000

def Endw (w : World) (base : Nat) (r : R) (m : Memc.M) : Prop := (r.e = m.e /\ r.f = m.f /\ r.h = m.h /\ r.t = m.t) /\ m.ok /\ ∀ a, la a -> Own w base (r.sl a) (m.area a)
section
variable {w w' : World} {base : Nat} {r : R} {m : Memc.M}
theorem Endw.rm (h : Endw w base r m) : Rm w w.heap.size r m :=
 ⟨h.1.1, h.1.2.1, h.1.2.2.1, h.1.2.2.2, h.2.1, (h.2.2 3 (.inl rfl)).rd, (h.2.2 4 (.inr (.inl rfl))).rd, (h.2.2 7 (.inr (.inr (.inl rfl)))).rd, (h.2.2 8 (.inr (.inr (.inr (.inl rfl))))).rd, (h.2.2 9 (.inr (.inr (.inr (.inr rfl))))).rd⟩
theorem Endw.kept (h : Endw w base r m) (hk : ∀ a, la a -> ∀ ad, (r.sl a).A = some ad -> w'.heap[ad.block]? = w.heap[ad.block]?) : Endw w' base r m :=
 ⟨h.1, h.2.1, fun a hl => (h.2.2 a hl).kept (hk a hl)⟩
theorem Endw.alloc (h : Endw w base r m) (o : Obj) : Endw (w.alloc o) base r m := ⟨h.1, h.2.1, fun a hl => (h.2.2 a hl).alloc o⟩
theorem Endw.drew (h : Endw w base r m) : Endw w.drew base r m := h
theorem Endw.only {P : Nat -> Prop} (h : Endw w base r m) (ho : Only P w w') (hp : ∀ a, la a -> ∀ ad, (r.sl a).A = some ad -> ¬ P ad.block) : Endw w' base r m :=
 h.kept fun a hl ad ha => ho.block _ ((h.2.2 a hl).lt ha).2 (hp a hl ad ha)
theorem Endw.ne (h : Endw w base r m) {g : Nat} {t : TypeId} {cs : Array Value} (hg : Blk w g t cs) (h1 : t ≠ 33) (h2 : t ≠ 30) : ∀ a, la a -> ∀ ad, (r.sl a).A = some ad -> ad.block ≠ g :=
 fun a hl ad ha e => ((h.2.2 a hl).kin ha).ne_ hg h1 h2 e.symm
end
theorem step_cell : (Tryz.prog.info? 68).map (fun i => (i.zero, i.size, i.bytes)) = some (some (.agg #[.int .i64 0, .int .i64 0, .int .i64 0, .int .i64 0, .int .u64 0, .int .u64 0, .int .u64 0, .bool false]), 8, 64) := by kernel_rfl

theorem Endw.drewN {w : World} {base : Nat} {r : R} {m : Memc.M} (h : Endw w base r m) (n : Nat) : Endw (w.drewN n) base r m := h
def ended (ct : Array Value) (o : Nat) : Array Value :=
 ((((((ct.setIfInBounds (o + 3) (.int .i64 0)).setIfInBounds (o + 4) (.int .i64 0)).setIfInBounds (o + 5) (.int .i64 0)).setIfInBounds (o + 6) (.int .u64 0)).setIfInBounds (o + 7) (.int .u64 0)).setIfInBounds (o + 8) (.bool false)).setIfInBounds (o + 1) .nilIface
end Go.Proofs.YtffppdcpiieapaaGreat.Drivec

namespace Go.Proofs.YtffppdcpiieapaaGreat.Zreg
open Go Go.RowKit
set_option linter.unusedVariables false
set_option maxRecDepth 100000
section
variable {P : Program} {ops : Array Oper} {Q : Exit -> Act -> World -> Prop} {md : Region.Mode} {S : World -> Prop} {zs : List Nat}
theorem two (i j : Nat) {o o' : Oper} {n : Nat} {listed : Array Bool} {a : Act} {w : World} (hr : Region.ready md ops listed = [i, j]) (hi : ops[i]? = some o) (hj : ops[j]? = some o') (hg : o.guard = none) (hg' : o'.guard = none)
   (h : ∀ K : Act -> World -> Prop, Hid (∀ b v, (past zs (listed.setIfInBounds i true) = true \/ S v) -> ((past zs (listed.setIfInBounds i true) = true \/ S v) -> After P md ops Q S zs n (listed.setIfInBounds i true) b v) -> K b v) -> Oper.wp P o a w K Q)
   (h' : ∀ K : Act -> World -> Prop, Hid (∀ b v, (past zs (listed.setIfInBounds j true) = true \/ S v) -> ((past zs (listed.setIfInBounds j true) = true \/ S v) -> After P md ops Q S zs n (listed.setIfInBounds j true) b v) -> K b v) -> Oper.wp P o' a w K Q) : After P md ops Q S zs (n + 1) listed a w := by
 refine ⟨(fun h0 => (by rw [hr] at h0; cases h0)), fun k hk => ?_⟩
 rw [hr] at hk
 have hk' : k = i \/ k = j := by simpa using hk
 rcases hk' with hk' | hk'
 · subst hk'
   unfold wpOp
   rw [hi]
   have hw : Region.wanted o (yielded ops a.tmps) = true := by simp [Region.wanted, hg]
   simp only [hw, if_true]
   exact .inl (h _ (lh fun b v hS hh => ⟨hS, hh hS⟩))
 · subst hk'
   unfold wpOp
   rw [hj]
   have hw : Region.wanted o' (yielded ops a.tmps) = true := by simp [Region.wanted, hg']
   simp only [hw, if_true]
   exact .inl (h' _ (lh fun b v hS hh => ⟨hS, hh hS⟩))
end
end Go.Proofs.YtffppdcpiieapaaGreat.Zreg

namespace Go.Proofs.YtffppdcpiieapaaGreat.Memc
open Go.RowKit
set_option linter.unusedVariables false
set_option maxRecDepth 100000

theorem append_where {P : Program} (w : World) (base : Nat) (t ty e : TypeId) (i : TypeInfo) (z : Value) (size bytes : Nat) (ht : P.underlying t = some (.slice e)) (hi : P.info? e = some i) (hz : i.zero = some z)
   (hsize : i.size = size) (hby : i.bytes = bytes) (hzs : z.cells.size = size) (hsz : 0 < size)
   (v : Value) (n : Nat) (xs : List Value) (hown : w.ownsRow base e size v n xs)
   (a : Addr) (c : Nat) (news : List Value) (hl : news.length = 1 * size) (hnews : ∀ j u, news[j]? = some u -> w.cell? (a.add j) = some u) (h1 : ∀ u ∈ news, u.oneCell' = true)
   (h63 : n + 1 <= maxLen) (hbytes : (n + 1) * bytes <= 140737488355328) {v' : Value} {w' : World}
   (hr : (Builtin.append_ #[t, t] ty #[v, .slice (some a) 1 c]).run P w = .ok v' w') : ∀ g, v'.ownBlock = some g -> v.ownBlock = some g \/ g = w.heap.size := by
 subst hsize
 subst hby
 have hsmall : n + 1 <= 9223372036854775807 := by simp only [maxLen] at h63; omega
 rcases hown.2 with ⟨rfl, rfl⟩ | ⟨g, cap, cur, rfl, hbg, hg, hnc, hcm, hcs, htake⟩
 · have hq := run_append_nil (P := P) w t ty e i z ht hi hz a 1 c news hl hnews (by omega) (by omega) (by have hb := hbytes; simp only [Nat.zero_add] at hb; omega)
   rw [hq] at hr
   injection hr with hv hw
   subst hv
   intro g hg
   simp only [Value.ownBlock] at hg
   injection hg with hg
   exact .inr hg.symm
 · by_cases hroom : n + 1 <= cap
   · have hfit : n * i.size + news.length <= cur.size := by rw [hl, hcs, <- Nat.add_mul]; exact Nat.mul_le_mul_right _ hroom
     have hq := run_append_room (P := P) w t ty e i ht hi g n cap cur hg a 1 c news hl hnews h1 hroom hfit
     rw [hq] at hr
     injection hr with hv hw
     subst hv
     intro g' hg'
     exact .inl hg'
   · have holds : ∀ j u, xs[j]? = some u -> w.cell? ((⟨g, 0, none⟩ : Addr).add j) = some u := hown.cells (g := g) rfl
     have hq := run_append_grow (P := P) w t ty e i z ht hi hz ⟨g, 0, none⟩ n cap xs hown.1 holds a 1 c news hl hnews (by omega) (by omega) (growslice_fits (by omega) hbytes)
     rw [hq] at hr
     injection hr with hv hw
     subst hv
     intro g' hg'
     simp only [Value.ownBlock] at hg'
     injection hg' with hg'
     exact .inr hg'.symm

theorem bl_own {s : Sl} {g : Nat} : bl s g ↔ (Value.slice s.A s.n s.c).ownBlock = some g := by
 obtain ⟨A, n, c⟩ := s
 cases A with
 | none => exact ⟨(fun ⟨ad, h, _⟩ => by cases h), (fun h => by cases h)⟩
 | some ad => exact ⟨(fun ⟨ad', h, he⟩ => by injection h with h; subst h; subst he; rfl), (fun h => by injection h with h; exact ⟨ad, rfl, h.symm⟩)⟩

theorem wp_app2 {w : World} {o : Oper} {a : Act} {K : Act -> World -> Prop} {Q : Exit -> Act -> World -> Prop} (x y : Operand) (t : TypeId) (ho : o.op = .call { callee := .builtin .append, args := #[x, y], argTypes := #[t, t] })
   (base : Nat) (E : TypeId) (i : TypeInfo) (z : Value) (size bytes : Nat) (ht : Tryz.prog.underlying t = some (.slice E)) (hi : Tryz.prog.info? E = some i) (hz : i.zero = some z) (hsize : i.size = size) (hby : i.bytes = bytes) (hzs : z.cells.size = size) (hsz : 0 < size)
   (s : Sl) (n : Nat) (xs : List Value) (hx : a.eval x = .slice s.A s.n s.c) (hown : Row w base E size s n xs) (gy : Nat) (news : List Value) (hy : a.eval y = .slice (some ⟨gy, 0, none⟩) 1 1) (hl : news.length = size)
   (hnews : ∀ j u, news[j]? = some u -> w.cell? ⟨gy, j, none⟩ = some u) (h1 : ∀ u ∈ news, u.oneCell' = true) (h63 : n < 1000000) (hb1 : bytes <= 1000) (hb : base <= w.heap.size)
   (hk : ∀ s' w', Row w' base E size s' (n + 1) (xs ++ news) -> Only (bl s) w w' -> (∀ g, bl s' g -> bl s g \/ g = w.heap.size) -> K (a.put o.dst (.slice s'.A s'.n s'.c)) w') : o.wp Tryz.prog a w K Q := by
 have hbb : (n + 1) * bytes <= 140737488355328 := Nat.le_trans (Nat.mul_le_mul (show n + 1 <= 1000000 by omega) hb1) (by omega)
 have hm63 : n + 1 <= maxLen := by unfold maxLen; omega
 have hnw : ∀ j u, news[j]? = some u -> w.cell? ((⟨gy, 0, none⟩ : Addr).add j) = some u := fun j u hj => by
   rw [Addr.add_lit]
   simpa using hnews j u hj
 obtain ⟨v', w', hr, h2, h3, h4⟩ := run_append_own (P := Tryz.prog) w base t o.type E i z size bytes ht hi hz hsize hby hzs hsz _ n xs hown ⟨gy, 0, none⟩ 1 1 news (by omega) hnw h1 hm63 hbb hb
 have hwh := append_where (P := Tryz.prog) w base t o.type E i z size bytes ht hi hz hsize hby hzs hsz _ n xs hown ⟨gy, 0, none⟩ 1 news (by omega) hnw h1 hm63 hbb hr
 unfold Oper.wp execOp
 simp only [ho, resolve, invoke, builtin, Sem.run_bind, Sem.run_pure, Result.andThen_ok, List.map_toArray, List.map_cons, List.map_nil, hx, hy, hr]
 obtain ⟨s', rfl, hs'⟩ := row_sl h2
 exact hk s' w' hs' (only_grown h3) (fun g hg => (hwh g (bl_own.1 hg)).imp_left bl_own.2)
end Go.Proofs.YtffppdcpiieapaaGreat.Memc

namespace Go.Proofs.YtffppdcpiieapaaGreat.Zreg
open Go Go.RowKit
set_option linter.unusedVariables false
set_option maxRecDepth 100000
section
variable {P : Program} {ops : Array Oper} {Q : Exit -> Act -> World -> Prop} {md : Region.Mode} {S : World -> Prop} {zs : List Nat}

def reach (md : Region.Mode) (ops : Array Oper) : Nat -> Nat -> Nat -> Bool
 | 0, _, _ => false
 | f + 1, z, i => match ops[z]? with
   | none => false
   | some o => o.after.toList.any fun e => Region.binds md e && (e.on == i || reach md ops f e.on i)
def Closed (md : Region.Mode) (ops : Array Oper) (listed : Array Bool) : Prop :=
 ∀ y o, ops[y]? = some o -> listed.getD y false = true -> ∀ e ∈ o.after, Region.binds md e = true -> listed.getD e.on false = true
def closedB (md : Region.Mode) (ops : Array Oper) (listed : Array Bool) : Bool :=
 (List.range ops.size).all fun y => !(listed.getD y false) || (match ops[y]? with
   | none => true
   | some o => o.after.all fun e => !(Region.binds md e) || listed.getD e.on false)
theorem closed_of {listed : Array Bool} (h : closedB md ops listed = true) : Closed md ops listed := fun y o ho hy e he hb => by
 have hlt : y < ops.size := (Array.getElem?_eq_some_iff.1 ho).1
 have h1 := List.all_eq_true.1 h y (List.mem_range.2 hlt)
 rw [ho, hy] at h1
 simp only [Bool.not_true, Bool.false_or] at h1
 have h2 := (Array.all_eq_true_iff_forall_mem.1 h1) e he
 rw [hb] at h2
 simpa using h2
theorem getD_set_false {listed : Array Bool} {i k : Nat} (h : listed.getD k false = true) : (listed.setIfInBounds i true).getD k false = true := by
 by_cases hik : i = k
 · subst hik
   rw [Array.getD_eq_getD_getElem?] at *
   have hlt : i < listed.size := by
     rcases Nat.lt_or_ge i listed.size with h1 | h1
     · exact h1
     · rw [Array.getElem?_eq_none h1] at h; cases h
   rw [Array.getElem?_setIfInBounds_self_of_lt hlt]; rfl
 · rw [getD_set_ne false hik]; exact h
theorem Closed.set {listed : Array Bool} {j : Nat} {oj : Oper} (h : Closed md ops listed) (hoj : ops[j]? = some oj) (hall : ∀ e ∈ oj.after, Region.binds md e = true -> listed.getD e.on false = true) : Closed md ops (listed.setIfInBounds j true) := fun y o ho hy e he hb => by
 by_cases hyj : j = y
 · subst hyj
   rw [hoj] at ho
   injection ho with ho
   subst ho
   exact getD_set_false (hall e he hb)
 · rw [getD_set_ne false hyj] at hy
   exact getD_set_false (h y o ho hy e he hb)
theorem reach_listed {listed : Array Bool} (h : Closed md ops listed) (i : Nat) : ∀ (f z : Nat) (o : Oper), ops[z]? = some o -> reach md ops f z i = true -> (∀ e ∈ o.after, Region.binds md e = true -> listed.getD e.on false = true) -> listed.getD i false = true
 | 0, z, o, _, hr, _ => by cases hr
 | f + 1, z, o, ho, hr, hall => by
   unfold reach at hr
   rw [ho] at hr
   simp only [List.any_eq_true, Bool.and_eq_true, Bool.or_eq_true, beq_iff_eq, Array.mem_toList_iff] at hr
   obtain ⟨e, he, hb, h1 | h1⟩ := hr
   · rw [<- h1]; exact hall e he hb
   · have hl := hall e he hb
     cases f with
     | zero => cases h1
     | succ f =>
       rcases hoy : ops[e.on]? with _ | oy
       · unfold reach at h1
         rw [hoy] at h1
         cases h1
       · exact reach_listed h i (f + 1) e.on oy hoy h1 (fun e' he' hb' => h e.on oy hoy hl e' he' hb')
theorem After.firstD {i : Nat} {o : Oper} {x : Value} (hi : ops[i]? = some o) (hiz : i ∉ zs) (hsel : Region.noSelect ops = true) (hQ : ∀ c a w, Q (.panic c) (a.put o.dst x) w -> Q (.panic c) a w) (hzr : ∀ z ∈ zs, reach md ops ops.size z i = true) :
   ∀ (n : Nat) (listed : Array Bool) (a : Act) (w : World), Closed md ops listed -> past zs listed = false ->
     (∀ j oj, ops[j]? = some oj -> j ≠ i -> listed.getD j true = false -> (∀ e ∈ oj.after, Region.binds md e = true -> e.on ≠ i) -> o.apart ops oj = true) ->
     i ∈ Region.ready md ops listed -> YieldsIf P ops S o x a -> (past zs listed = true \/ S w) -> After P md ops Q S zs n (listed.setIfInBounds i true) (a.put o.dst x) w -> After P md ops Q S zs (n + 1) listed a w
 | n, listed, a, w, hcl, hp, hfree, hr, hy, hS, h => by
   have hS' := hS.resolve_left (by rw [hp]; decide)
   refine ⟨(fun h0 => (by rw [h0] at hr; cases hr)), fun j hj => ?_⟩
   by_cases hji : j = i
   · subst hji
     exact hy.wpOp hi hS' ⟨hS.imp_left past_mono, h⟩
   · obtain ⟨hun, oj, hoj, hall⟩ := mem_ready.1 hj
     have hno := not_waits hr hoj hall
     match n, h with
     | 0, h =>
       have := ready_mono hj hji
       rw [h.1] at this
       cases this
     | n + 1, h =>
       have h1 := h.2 j (ready_mono hj hji)
       have h2 := wpOp_putIf hoj (hfree j oj hoj hji hun hno) (fun cs b => Region.noSelect_spec hsel i o cs b hi) (fun cs b => Region.noSelect_spec hsel j oj cs b hoj) hQ hy h1
       refine wpOp_mono (fun b v h3 => ?_) h2
       have hSv : past zs (listed.setIfInBounds j true) = true \/ S v := by
         have h4 := h3.2.1
         rw [Array.setIfInBounds_comm _ _ (Ne.symm hji)] at h4
         exact h4.imp_left (past_of_set hiz)
       have hp' : past zs (listed.setIfInBounds j true) = false := past_set hp (fun hjz => by
         have h5 := reach_listed hcl i ops.size j oj hoj (hzr j hjz) hall
         have h6 := (mem_ready.1 hr).1
         rw [Array.getD_eq_getD_getElem?] at h5 h6
         rcases hx : listed[i]? with _ | y
         · rw [hx] at h5; cases h5
         · rw [hx] at h5 h6
           simp only [Option.getD_some] at h5 h6
           rw [h5] at h6; cases h6)
       have hS'v : S v := hSv.resolve_left (by rw [hp']; decide)
       refine ⟨hSv, After.firstD hi hiz hsel hQ hzr n (listed.setIfInBounds j true) b v (hcl.set hoj hall) hp' (fun k ok hk hki hku hkn => ?_) (ready_mono hr (Ne.symm hji)) h3.1 hSv ?_⟩
       · refine hfree k ok hk hki ?_ hkn
         by_cases hjk : j = k
         · subst hjk; exact hun
         · rw [getD_set_ne true hjk] at hku; exact hku
       · rw [Array.setIfInBounds_comm _ _ hji]
         exact h3.2.2
theorem takeD (i d : Nat) {o : Oper} {x : Value} {n : Nat} {listed : Array Bool} {tmps : Array Value} {w : World}
   (hi : ops[i]? = some o) (hd : o.dst = some d) (hs : Region.noSelect ops = true) (hf : Region.free md ops listed i = true) (hr : (Region.ready md ops listed).contains i = true) (hiz : zs.contains i = false) (hz : zs.all (fun z => reach md ops ops.size z i) = true) (hp : past zs listed = false) (hcl : closedB md ops listed = true)
   (hQ : ∀ c a w, Q (.panic c) (a.put o.dst x) w -> Q (.panic c) a w) (hS : past zs listed = true \/ S w) (hy : YieldsIf P ops S o x ⟨tmps, []⟩)
   (h : After P md ops Q S zs n (listed.setIfInBounds i true) ⟨tmps.setIfInBounds d x, []⟩ w) : After P md ops Q S zs (n + 1) listed ⟨tmps, []⟩ w := by
 refine After.firstD hi (by simpa using hiz) hs hQ (fun z hz' => List.all_eq_true.1 hz z hz') n listed _ w (closed_of hcl) hp (fun j oj hj hne hun hno => Region.free_spec hi hf j oj hj hne hun hno) (by simpa using hr) hy hS ?_
 rw [hd]
 exact h
theorem tD (i d : Nat) {o : Oper} {x : Value} {n : Nat} {listed : Array Bool} {tmps : Array Value} {w : World}
 (hi : ops[i]? = some o) (hd : o.dst = some d) (hk : (Region.noSelect ops && Region.free md ops listed i && (Region.ready md ops listed).contains i && !zs.contains i && zs.all (fun z => reach md ops ops.size z i) && !past zs listed && closedB md ops listed) = true) (hQ : ∀ c a w, Q (.panic c) (a.put o.dst x) w -> Q (.panic c) a w) (hS : past zs listed = true \/ S w) (hy : YieldsIf P ops S o x ⟨tmps, []⟩) (h : After P md ops Q S zs n (listed.setIfInBounds i true) ⟨tmps.setIfInBounds d x, []⟩ w) : After P md ops Q S zs (n + 1) listed ⟨tmps, []⟩ w := by
 simp only [Bool.and_eq_true, Bool.not_eq_true'] at hk
 exact takeD i d hi hd hk.1.1.1.1.1.1 hk.1.1.1.1.1.2 hk.1.1.1.1.2 hk.1.1.1.2 hk.1.1.2 hk.1.2 hk.2 hQ hS hy h
end
end Go.Proofs.YtffppdcpiieapaaGreat.Zreg
