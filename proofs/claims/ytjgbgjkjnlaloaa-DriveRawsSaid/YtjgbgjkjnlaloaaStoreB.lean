/- The package store's access, by its contract: what it tells, and the words behind it. -/
import Derived.Test.YtjgbgjkjnlaloaaStoreA
namespace Go.Proofs.Ytjgbgjkjnlaloaa.Storec
open Go.RowKit Go.Proofs.Ytjgbgjkjnlaloaa.Memc
set_option linter.unusedVariables false
set_option maxRecDepth 100000

theorem find_yes (base g : Nat) (r : R) (m : M) (cap : Addr) (a i : Int) (w : World) (hc : w.cell? cap = some (.pointer (some ⟨g, 0, none⟩))) (H : Hold w base g r m)
    (ha : -9223372036854775808 ≤ a) (ha' : a ≤ 9223372036854775807) (ht : there m a i) :
    Calls Try.prog 73 #[.int .i64 a, .int .i64 i, .pointer (some cap)] w fun e w' => ∃ p : Addr, e = .returned (.pointer (some p)) ∧ Lens w base g r m a i (some p) ∧ w = w' :=
  (find_c base g r m cap a i w hc H ha ha').mono fun e w' ⟨q, he, hl, hw⟩ => by
    rcases q with _ | p
    · exact absurd ht hl
    · exact ⟨p, he, hl, hw⟩
theorem find_none (base g : Nat) (r : R) (m : M) (cap : Addr) (a i : Int) (w : World) (hc : w.cell? cap = some (.pointer (some ⟨g, 0, none⟩))) (H : Hold w base g r m)
    (ha : -9223372036854775808 ≤ a) (ha' : a ≤ 9223372036854775807) (ht : ¬ there m a i) :
    Calls Try.prog 73 #[.int .i64 a, .int .i64 i, .pointer (some cap)] w fun e w' => e = .returned (.pointer none) ∧ w = w' :=
  (find_c base g r m cap a i w hc H ha ha').mono fun e w' ⟨q, he, hl, hw⟩ => by
    rcases q with _ | p
    · exact ⟨he, hw⟩
    · exact absurd hl.1 ht

def clo (cap : Addr) : Value := .func (.func 73) #[] #[.pointer (some cap)]
def Acc.v (c : Acc) : Value := .agg #[.int .i64 c.d, .int .i64 c.ar, .int .i64 c.at_, .int .u64 c.old, .int .u64 c.new]

/-- blocks that hold no words are as they were -/
def Others (w w' : World) : Prop := ∀ (k : Nat) (t : TypeId) (cs : Array Value), Blk w k t cs → t ≠ 25 → t ≠ 22 → Blk w' k t cs
theorem Others.alloc (w : World) (o : Obj) : Others w (w.alloc o) := fun k t cs h _ _ => h.alloc o
theorem Others.put_ {w : World} {o : Obj} {p : Addr} {v : Value} (h : Kin (w.alloc o) p.block) : Others w ((w.alloc o).setCell p v) := fun k t cs hk h1 h2 =>
  (hk.alloc o).far (h.ne_ (hk.alloc o) h1 h2) v

/-- what an access comes to -/
def Did (w : World) (base g : Nat) (m : M) (c : Acc) (e : Ending) (w' : World) : Prop :=
  (∃ r', Hold w' base g r' (acc m c).1) ∧ e = .returned (.tuple #[.int .u64 (acc m c).2.1, .bool (acc m c).2.2]) ∧ Below base w w' ∧ Others w w'

set_option maxHeartbeats 1000000 in
theorem access_none (base g : Nat) (r : R) (m : M) (cap : Addr) (d ar at_ old new : Int) (w : World) (hc : w.cell? cap = some (.pointer (some ⟨g, 0, none⟩))) (hcb : cap.block < w.heap.size) (H : Hold w base g r m)
    (hb : base ≤ w.heap.size) (ha : -9223372036854775808 ≤ ar) (ha' : ar ≤ 9223372036854775807) (ht : ¬ there m ar at_) :
    Calls Try.prog 42 #[.func (.func 73) #[] #[.pointer (some cap)], .agg #[.int .i64 d, .int .i64 ar, .int .i64 at_, .int .u64 old, .int .u64 new]] w
      (fun e w' => Hold w' base g r m ∧ e = .returned (.tuple #[.int .u64 0, .bool false]) ∧ Below base w w' ∧ Others w w') := by
  have HT := Lib.hid ht
  clear ht
  go_enter Try.func42, Try.ntmps42
  go_wp2_with (go_at_call 73; refine (find_none base g r m cap _ _ _ (by go_simp) (H.alloc _) (by omega) (by omega) HT.out).mono ?_; rintro e w' ⟨rfl, rfl⟩)
  go_ret2
  exact ⟨H.alloc _, rfl, (Below.refl _ _).alloc hb _, Others.alloc _ _⟩

set_option maxHeartbeats 1000000 in
theorem access_other (base g : Nat) (r : R) (m : M) (cap : Addr) (d ar at_ old new : Int) (w : World) (hc : w.cell? cap = some (.pointer (some ⟨g, 0, none⟩))) (hcb : cap.block < w.heap.size) (H : Hold w base g r m)
    (hb : base ≤ w.heap.size) (ha : -9223372036854775808 ≤ ar) (ha' : ar ≤ 9223372036854775807) (ht : there m ar at_) (hd : d < 1 ∨ 3 < d) :
    Calls Try.prog 42 #[.func (.func 73) #[] #[.pointer (some cap)], .agg #[.int .i64 d, .int .i64 ar, .int .i64 at_, .int .u64 old, .int .u64 new]] w
      (fun e w' => Hold w' base g r m ∧ e = .returned (.tuple #[.int .u64 0, .bool false]) ∧ Below base w w' ∧ Others w w') := by
  have HT := Lib.hid ht
  clear ht
  have e1 : (d == 1) = false := by simp; omega
  have e2 : (d == 2) = false := by simp; omega
  have e3 : (d == 3) = false := by simp; omega
  clear hd
  go_enter Try.func42, Try.ntmps42
  go_wp2_with (go_at_call 73; refine (find_yes base g r m cap _ _ _ (by go_simp) (H.alloc _) (by omega) (by omega) HT.out).mono ?_; rintro e w' ⟨p, rfl, ⟨_, hpb, hpl, hpc, hpf, hpk, hpS⟩, rfl⟩; have HK := Lib.hid hpk; clear hpk)
  go_ret2
  exact ⟨H.alloc _, rfl, (Below.refl _ _).alloc hb _, Others.alloc _ _⟩

set_option maxHeartbeats 1000000 in
theorem access_read (base g : Nat) (r : R) (m : M) (cap : Addr) (ar at_ old new : Int) (w : World) (hc : w.cell? cap = some (.pointer (some ⟨g, 0, none⟩))) (hcb : cap.block < w.heap.size) (H : Hold w base g r m)
    (hb : base ≤ w.heap.size) (ha : -9223372036854775808 ≤ ar) (ha' : ar ≤ 9223372036854775807) (ht : there m ar at_) :
    Calls Try.prog 42 #[.func (.func 73) #[] #[.pointer (some cap)], .agg #[.int .i64 1, .int .i64 ar, .int .i64 at_, .int .u64 old, .int .u64 new]] w
      (fun e w' => Hold w' base g r m ∧ e = .returned (.tuple #[.int .u64 (get m ar at_), .bool false]) ∧ Below base w w' ∧ Others w w') := by
  have HT := Lib.hid ht
  clear ht
  go_enter Try.func42, Try.ntmps42
  go_wp2_with (go_at_call 73; refine (find_yes base g r m cap _ _ _ (by go_simp) (H.alloc _) (by omega) (by omega) HT.out).mono ?_; rintro e w' ⟨p, rfl, ⟨_, hpb, hpl, hpc, hpf, hpk, hpS⟩, rfl⟩; have HK := Lib.hid hpk; clear hpk)
  go_ret2
  exact ⟨H.alloc _, rfl, (Below.refl _ _).alloc hb _, Others.alloc _ _⟩

set_option maxHeartbeats 1000000 in
theorem access_write (base g : Nat) (r : R) (m : M) (cap : Addr) (ar at_ old new : Int) (w : World) (hc : w.cell? cap = some (.pointer (some ⟨g, 0, none⟩))) (hcb : cap.block < w.heap.size) (H : Hold w base g r m)
    (hb : base ≤ w.heap.size) (ha : -9223372036854775808 ≤ ar) (ha' : ar ≤ 9223372036854775807) (ht : there m ar at_) (hv0 : 0 ≤ new ∧ new ≤ 18446744073709551615) :
    Calls Try.prog 42 #[.func (.func 73) #[] #[.pointer (some cap)], .agg #[.int .i64 2, .int .i64 ar, .int .i64 at_, .int .u64 old, .int .u64 new]] w
      (fun e w' => (∃ r', Hold w' base g r' (set m ar at_ new)) ∧ e = .returned (.tuple #[.int .u64 (get m ar at_), .bool true]) ∧ Below base w w' ∧ Others w w') := by
  have HT := Lib.hid ht
  clear ht
  have hv : Hid (0 ≤ new ∧ new ≤ 18446744073709551615) := hv0
  clear hv0
  go_enter Try.func42, Try.ntmps42
  go_wp2_with (go_at_call 73; refine (find_yes base g r m cap _ _ _ (by go_simp) (H.alloc _) (by omega) (by omega) HT.out).mono ?_; rintro e w' ⟨p, rfl, ⟨_, hpb, hpl, hpc, hpf, hpk, hpS⟩, rfl⟩; have HK := Lib.hid hpk; clear hpk)
  go_ret2
  exact ⟨hpS _ (H.alloc _) new hv.out, rfl, ((Below.refl _ _).alloc hb _).setCell hpb _, Others.put_ HK.out⟩

set_option maxHeartbeats 1000000 in
theorem access_swap (base g : Nat) (r : R) (m : M) (cap : Addr) (ar at_ old new : Int) (w : World) (hc : w.cell? cap = some (.pointer (some ⟨g, 0, none⟩))) (hcb : cap.block < w.heap.size) (H : Hold w base g r m)
    (hb : base ≤ w.heap.size) (ha : -9223372036854775808 ≤ ar) (ha' : ar ≤ 9223372036854775807) (ht : there m ar at_) (hv0 : 0 ≤ new ∧ new ≤ 18446744073709551615) (he : get m ar at_ = old) :
    Calls Try.prog 42 #[.func (.func 73) #[] #[.pointer (some cap)], .agg #[.int .i64 3, .int .i64 ar, .int .i64 at_, .int .u64 old, .int .u64 new]] w
      (fun e w' => (∃ r', Hold w' base g r' (set m ar at_ new)) ∧ e = .returned (.tuple #[.int .u64 (get m ar at_), .bool true]) ∧ Below base w w' ∧ Others w w') := by
  have HT := Lib.hid ht
  clear ht
  have hv : Hid (0 ≤ new ∧ new ≤ 18446744073709551615) := hv0
  clear hv0
  have e1 : (get m ar at_ != old) = false := by simp [he]
  clear he
  go_enter Try.func42, Try.ntmps42
  go_wp2_with (go_at_call 73; refine (find_yes base g r m cap _ _ _ (by go_simp) (H.alloc _) (by omega) (by omega) HT.out).mono ?_; rintro e w' ⟨p, rfl, ⟨_, hpb, hpl, hpc, hpf, hpk, hpS⟩, rfl⟩; have HK := Lib.hid hpk; clear hpk)
  go_ret2
  exact ⟨hpS _ (H.alloc _) new hv.out, rfl, ((Below.refl _ _).alloc hb _).setCell hpb _, Others.put_ HK.out⟩

set_option maxHeartbeats 1000000 in
theorem access_stays (base g : Nat) (r : R) (m : M) (cap : Addr) (ar at_ old new : Int) (w : World) (hc : w.cell? cap = some (.pointer (some ⟨g, 0, none⟩))) (hcb : cap.block < w.heap.size) (H : Hold w base g r m)
    (hb : base ≤ w.heap.size) (ha : -9223372036854775808 ≤ ar) (ha' : ar ≤ 9223372036854775807) (ht : there m ar at_) (he : ¬ get m ar at_ = old) :
    Calls Try.prog 42 #[.func (.func 73) #[] #[.pointer (some cap)], .agg #[.int .i64 3, .int .i64 ar, .int .i64 at_, .int .u64 old, .int .u64 new]] w
      (fun e w' => Hold w' base g r m ∧ e = .returned (.tuple #[.int .u64 (get m ar at_), .bool false]) ∧ Below base w w' ∧ Others w w') := by
  have HT := Lib.hid ht
  clear ht
  have e1 : (get m ar at_ != old) = true := by simp [he]
  clear he
  go_enter Try.func42, Try.ntmps42
  go_wp2_with (go_at_call 73; refine (find_yes base g r m cap _ _ _ (by go_simp) (H.alloc _) (by omega) (by omega) HT.out).mono ?_; rintro e w' ⟨p, rfl, ⟨_, hpb, hpl, hpc, hpf, hpk, hpS⟩, rfl⟩; have HK := Lib.hid hpk; clear hpk)
  go_ret2
  exact ⟨H.alloc _, rfl, (Below.refl _ _).alloc hb _, Others.alloc _ _⟩

theorem access_c (base g : Nat) (r : R) (m : M) (cap : Addr) (c : Acc) (w : World) (hc : w.cell? cap = some (.pointer (some ⟨g, 0, none⟩))) (hcb : cap.block < w.heap.size) (H : Hold w base g r m)
    (hb : base ≤ w.heap.size) (hk : c.ok) :
    Calls Try.prog 42 #[.func (.func 73) #[] #[.pointer (some cap)], .agg #[.int .i64 c.d, .int .i64 c.ar, .int .i64 c.at_, .int .u64 c.old, .int .u64 c.new]] w (Did w base g m c) := by
  obtain ⟨d, ar, at_, old, new⟩ := c
  obtain ⟨⟨k1, k2⟩, ⟨k3, k4⟩, ⟨k5, k6⟩, k7, k8⟩ := hk
  by_cases ht : there m ar at_
  · by_cases h1 : d < 1 ∨ 3 < d
    · refine (access_other base g r m cap d ar at_ old new w hc hcb H hb k3 k4 ht h1).mono fun e w' ⟨h, he, hw⟩ => ?_
      have e1 : acc m ⟨d, ar, at_, old, new⟩ = (m, 0, false) := by unfold acc; rw [if_neg (by simp only; omega)]
      exact ⟨by rw [e1]; exact ⟨r, h⟩, by rw [e1]; exact he, hw⟩
    · rcases (show d = 1 ∨ d = 2 ∨ d = 3 by omega) with rfl | rfl | rfl
      · refine (access_read base g r m cap ar at_ old new w hc hcb H hb k3 k4 ht).mono fun e w' ⟨h, he, hw⟩ => ?_
        have e1 : acc m ⟨1, ar, at_, old, new⟩ = (m, get m ar at_, false) := by unfold acc; rw [if_pos ⟨ht, by simp⟩, if_pos (.inl rfl)]
        exact ⟨by rw [e1]; exact ⟨r, h⟩, by rw [e1]; exact he, hw⟩
      · refine (access_write base g r m cap ar at_ old new w hc hcb H hb k3 k4 ht k8).mono fun e w' ⟨h, he, hw⟩ => ?_
        have e1 : acc m ⟨2, ar, at_, old, new⟩ = (set m ar at_ new, get m ar at_, true) := by unfold acc; rw [if_pos ⟨ht, by simp⟩, if_neg (by simp)]
        exact ⟨by rw [e1]; exact h, by rw [e1]; exact he, hw⟩
      · by_cases he : get m ar at_ = old
        · refine (access_swap base g r m cap ar at_ old new w hc hcb H hb k3 k4 ht k8 he).mono fun e w' ⟨h, he', hw⟩ => ?_
          have e1 : acc m ⟨3, ar, at_, old, new⟩ = (set m ar at_ new, get m ar at_, true) := by unfold acc; rw [if_pos ⟨ht, by simp⟩, if_neg (by simp [he])]
          exact ⟨by rw [e1]; exact h, by rw [e1]; exact he', hw⟩
        · refine (access_stays base g r m cap ar at_ old new w hc hcb H hb k3 k4 ht he).mono fun e w' ⟨h, he', hw⟩ => ?_
          have e1 : acc m ⟨3, ar, at_, old, new⟩ = (m, get m ar at_, false) := by unfold acc; rw [if_pos ⟨ht, by simp⟩, if_pos (.inr ⟨rfl, he⟩)]
          exact ⟨by rw [e1]; exact ⟨r, h⟩, by rw [e1]; exact he', hw⟩
  · refine (access_none base g r m cap d ar at_ old new w hc hcb H hb k3 k4 ht).mono fun e w' ⟨h, he, hw⟩ => ?_
    have e1 : acc m ⟨d, ar, at_, old, new⟩ = (m, 0, false) := by unfold acc; rw [if_neg (fun hh => ht hh.1)]
    exact ⟨by rw [e1]; exact ⟨r, h⟩, by rw [e1]; exact he, hw⟩
end Go.Proofs.Ytjgbgjkjnlaloaa.Storec
