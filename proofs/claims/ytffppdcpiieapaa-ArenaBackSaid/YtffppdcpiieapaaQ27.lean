/- ArenaBack: how far the list of calls is. -/
import Derived.Test.YtffppdcpiieapaaQ17
import Derived.Test.YtffppdcpiieapaaQ18
namespace Go.Proofs.Ytffppdcpiieapaa.Machc
open Go.RowKit Go.Proofs.Ytffppdcpiieapaa.Memc Go.Proofs.Ytffppdcpiieapaa.Newc Go.Proofs.Ytffppdcpiieapaa.Drivec Go.Proofs.Ytffppdcpiieapaa.Procc Go.Proofs.Ytffppdcpiieapaa.Arenac
set_option linter.unusedVariables false
set_option maxRecDepth 100000

theorem listB_c (w : World) (r : R) (lk : List Int) (g c : Nat) (hK : r.K = ⟨some ⟨g, 0, none⟩, lk.length, c⟩) (hg : g < w.heap.size) (hgc : ∀ (j : Nat) (x : Int), lk[j]? = some x → w.cell? ⟨g, j, none⟩ = some (.int .u64 x)) (hu : u64s lk) (hlm : lk.length ≤ maxLen) (first : Int) (f0 : 0 ≤ first) (f1 : first ≤ 4294967295) :
    Calls Try.prog 19 #[.agg #[.int .u64 r.e, .int .u64 r.f, .slice r.L.A r.L.n r.L.c, .slice r.P.A r.P.n r.P.c, .int .u64 r.h, .int .u64 r.t, .slice r.K.A lk.length r.K.c, .slice r.X.A r.X.n r.X.c, .slice r.S.A r.S.n r.S.c], .int .u32 first, .int .i64 99] w fun e w' => ∃ q : Sl, e = .returned (.slice q.A q.n q.c) ∧ Row w' (w.heap.size + 1) 3 1 q (listN 99 lk first).length (intsV (listN 99 lk first)) ∧ Below w.heap.size w w' :=
  list_c w r lk g c hK hg hgc hu hlm first f0 f1 99 (by decide)
/-- the numbers that are given back -/
def givN (h n tu : Nat) : List Nat := (List.range n).map fun i => h + (i + tu) % n
theorem givN_len (h n tu : Nat) : (givN h n tu).length = n := by simp [givN]
theorem givN_lt {h n tu : Nat} (hn : 0 < n) : ∀ x ∈ givN h n tu, x < h + n := fun x hx => by
  obtain ⟨i, _, rfl⟩ := List.mem_map.1 hx
  have := Nat.mod_lt (i + tu) hn
  omega
theorem givN_nodup (h n tu : Nat) : (givN h n tu).Nodup := by
  unfold givN
  refine List.pairwise_map.2 (List.pairwise_iff_getElem.2 fun a b ha hb hab => ?_)
  rw [List.getElem_range, List.getElem_range]
  rw [List.length_range] at ha hb
  intro e
  have e1 : (b + tu) % n = (a + tu) % n := by omega
  have e2 := Nat.sub_mod_eq_zero_of_mod_eq e1
  rw [show b + tu - (a + tu) = b - a by omega, Nat.mod_eq_of_lt (by omega)] at e2
  omega
theorem givN_get {h n tu i : Nat} (hi : i < n) : (givN h n tu)[i]? = some (h + (i + tu) % n) := by
  unfold givN
  rw [List.getElem?_map, List.getElem?_range hi]; rfl
/-- the calls of the second loop -/
def givO (h n tu j : Nat) : List (Int × Int) := (List.range j).map fun i => ((5 : Int), ((h + (i + tu) % n : Nat) : Int))
theorem givO_all (h n tu : Nat) : givO h n tu n = (givN h n tu).map fun v : Nat => ((5 : Int), (v : Int)) := by
  unfold givO givN
  rw [List.map_map]; rfl
theorem givO_succ (h n tu j : Nat) : givO h n tu (j + 1) = givO h n tu j ++ [((5 : Int), ((h + (j + tu) % n : Nat) : Int))] := by
  unfold givO
  rw [List.range_succ, List.map_append]; rfl
theorem giv_valp (h : Nat) (i tu j : Nat) (hh : h ≤ 1) (j0 : 0 < j) (j1 : j ≤ 64) : wrap64 ((h : Int) + ((i : Int) + tu) % j) % 4294967296 = ((h + (i + tu) % j : Nat) : Int) := by
  have h5 : ((i : Int) + tu) % (j : Int) = (((i + tu) % j : Nat) : Int) := by norm_cast
  have h6 := Nat.mod_lt (i + tu) j0
  rw [h5]
  generalize (i + tu) % j = m at h6 ⊢
  unfold wrap64
  omega
theorem giv_w3 (i : Nat) (h : i ≤ 64) : wrap64 (3 * (i : Int)) = 3 * i := by unfold wrap64; omega
theorem giv_w31 (i : Nat) (h : i ≤ 64) : wrap64 (3 * (i : Int) + 1) = 3 * i + 1 := by unfold wrap64; omega
theorem giv_w2 (i : Nat) (h : i ≤ 64) : wrap64 (2 * (i : Int)) = 2 * i := by unfold wrap64; omega
theorem giv_w21 (i : Nat) (h : i ≤ 64) : wrap64 (2 * (i : Int) - 1) = 2 * i - 1 := by unfold wrap64; omega
theorem giv_wn (i : Nat) (h : i ≤ 1000) : wrap64 (i : Int) = i := by unfold wrap64; omega
theorem giv_y1 (j : Nat) (h : j ≤ 64) : wrap64 (1 + (j : Int)) % 4294967296 = ((1 + j : Nat) : Int) := by unfold wrap64; omega
theorem wrapI (x : Int) : IntKind.i64.wrap x = wrap64 x := by rw [IntKind.wrap_i64]; unfold wrap64; omega
theorem giv_z1 (j : Nat) (h : j ≤ 64) : IntKind.i64.wrap (1 + (j : Int)) % 4294967296 = ((1 + j : Nat) : Int) := by rw [wrapI]; exact giv_y1 j h
theorem giv_z0 (j : Nat) (h : j ≤ 64) : (j : Int) % 4294967296 = ((0 + j : Nat) : Int) := by omega
theorem giv_val1 (i tu j : Nat) (j0 : 0 < j) (j1 : j ≤ 64) : wrap64 (1 + ((i : Int) + tu) % j) % 4294967296 = ((1 + (i + tu) % j : Nat) : Int) := giv_valp 1 i tu j (by omega) j0 j1
theorem giv_val0 (i tu j : Nat) (j0 : 0 < j) (j1 : j ≤ 64) : wrap64 (((i : Int) + tu) % j) % 4294967296 = ((0 + (i + tu) % j : Nat) : Int) := by
  have := giv_valp 0 i tu j (by omega) j0 j1
  rw [← this]
  simp
/-- how far the list of calls is -/
structure BkI (V : World) (q : Sl) (n : Nat) (l : List (Int × Int)) (cs : Array Value) (w : World) : Prop where
  l : Row V (w.heap.size + 1) 63 2 q n (flatP l)
  c : Blk V w.heap.size 23 cs
  b : Below w.heap.size w V
section
variable {V V' w : World} {q q2 : Sl} {n : Nat} {l : List (Int × Int)} {cs : Array Value}
theorem BkI.below (h : BkI V q n l cs w) (o : Below V.heap.size V V') : BkI V' q n l cs w := ⟨h.l.below o (Nat.le_refl _), h.c.below o h.c.lt, h.b.trans (o.mono h.b.size)⟩
theorem BkI.alloc (h : BkI V q n l cs w) (o : Obj) : BkI (V.alloc o) q n l cs w := h.below ((Below.refl _ _).alloc (Nat.le_refl _) _)
theorem BkI.add (h : BkI V q n l cs w) {ob : Obj} {x : Int × Int} (hr : Row V' (w.heap.size + 1) 63 2 q2 (n + 1) (flatP l ++ [.int .i64 x.1, .int .u32 x.2])) (o : Only (bl q) (V.alloc ob) V') : BkI V' q2 (n + 1) (l ++ [x]) cs w := by
  have h1 := h.alloc ob
  refine ⟨by rw [flatP_app]; exact hr, h1.c.only o (fun hb => by have := (h1.l.lt hb).1; omega), h1.b.trans (o.below h1.b.size (fun g hg => by have := (h1.l.lt hg).1; omega))⟩
theorem BkI.pick {p : Sl} {m : Nat} {xs : List Value} {ob : Obj} (h : BkI V q n l cs w) (hp : Row V (w.heap.size + 1) 65 2 p m xs) (o : Only (bl p) (V.alloc ob) V') : BkI V' q n l cs w := by
  have h1 := h.alloc ob
  have hp1 := Row.alloc hp ob
  exact ⟨h1.l.only o (row_apart h1.l hp1 (by decide)), h1.c.only o (fun hb => by have := (hp1.lt hb).1; omega), h1.b.trans (o.below h1.b.size (fun g hg => by have := (hp1.lt hg).1; omega))⟩
theorem BkI.lists {g : Nat} (h : BkI V q n l cs w) (hl : l.length = n) (hg : Blk V g 61 #[.slice q.A q.n q.c]) : RdLO V V.heap.size ⟨some ⟨g, 0, none⟩, 1, 1⟩ [l] := by
  subst hl
  exact ⟨rfl, Nat.le_refl _, by show 1 ≤ maxLen; unfold maxLen; omega, fun _ => ⟨g, 0, rfl, hg.lt, fun i x hx => match i, hx with
    | 0, hx => by injection hx with hx; subst hx; exact ⟨q, hg.cell 0, row_rdo h.l⟩⟩⟩
end
/-- what stays while the calls are looked at -/
structure BkE (w V : World) (gA gK : Nat) (T : Array Value) (l : List Value) (n : Nat) : Prop where
  x : Blk V gA 35 T
  b : Below w.heap.size w V
  k : ∀ j, j < n → V.cell? ⟨gK, j, none⟩ = l[j]?
theorem BkE.drew {w V : World} {gA gK : Nat} {T : Array Value} {l : List Value} {n : Nat} (h : BkE w V gA gK T l n) : BkE w V.drew gA gK T l n := ⟨h.x.drew, h.b.drew, h.k⟩
theorem arun1_c (w : World) (k : Int) (K M : Nat) (bo oc : Nat) (pA : Option Addr) (pn pc : Nat) (l : List (Int × Int)) (ps : List (Int × Int))
    (k1 : 1 ≤ k) (k2 : k ≤ 3) (a1 : 1 ≤ K) (a2 : K ≤ 64) (m1 : 2 ≤ M) (m2 : M ≤ 64)
    (hl : RdLO w w.heap.size ⟨some ⟨bo, 0, none⟩, 1, oc⟩ [l]) (hle : l.length ≤ 1000) (hp : RdP w w.heap.size ⟨pA, pn, pc⟩ ps) (hpn : ps.length ≤ 20000)
    (hf : l.any fgn = false) (hv : ∀ o ∈ l, 0 ≤ o.2 ∧ o.2 ≤ 4294967295) :
    Calls Try.prog 16 #[.agg #[.int .i64 k, .int .i64 K, .int .i64 1, .int .i64 M], .slice (some ⟨bo, 0, none⟩) 1 oc, .slice pA pn pc] w (RanL w (runM (docZ k K 1 M) [l] (RS.first (newM k K 1 M) 1) ps)) :=
  arun_c w k K 1 M bo 0 oc pA pn pc [l] ps k1 k2 a1 a2 (by omega) (by omega) m1 m2 hl (fun x hx => by rw [List.mem_singleton.1 hx]; exact hle) hp hpn (fun x hx => by rw [List.mem_singleton.1 hx]; exact hf) (fun x hx => by rw [List.mem_singleton.1 hx]; exact hv)
theorem runB_area {Z : Mac} {ls : List (List (Int × Int))} (b : Int) {n : Nat} (ps : List (Int × Int)) (s : RS) (h : (s.m.area b).length = n) : ((runM Z ls s ps).m.area b).length = n :=
  runM_ind (P := fun s => (s.m.area b).length = n) (fun s t d hs => turnM_ind (P := fun s => (s.m.area b).length = n) hs
    (fun i l o d _ _ _ => (len_acc _ _ _).trans hs) (fun i _ _ => (len_acc _ _ _).trans hs) t d) ps s h
theorem backOps_fgn (n : Nat) (g : List Nat) : (backOps n g).any fgn = false := List.any_eq_false.2 fun o ho => by
  unfold backOps at ho
  unfold fgn
  rcases List.mem_append.1 ho with ho | ho
  · rcases List.mem_append.1 ho with ho | ho
    · rw [List.eq_of_mem_replicate ho]; simp
    · obtain ⟨v, _, rfl⟩ := List.mem_map.1 ho; simp
  · rw [List.eq_of_mem_replicate ho]; simp
theorem backOps_val {n M : Nat} {g : List Nat} (hM : M ≤ 64) (hg : ∀ x ∈ g, x < M) : ∀ o ∈ backOps n g, 0 ≤ o.2 ∧ o.2 ≤ 4294967295 := fun o ho => by
  unfold backOps at ho
  rcases List.mem_append.1 ho with ho | ho
  · rcases List.mem_append.1 ho with ho | ho
    · rw [List.eq_of_mem_replicate ho]; simp
    · obtain ⟨v, hv, rfl⟩ := List.mem_map.1 ho
      have := hg v hv
      simp only
      omega
  · rw [List.eq_of_mem_replicate ho]; simp
theorem key_at {s : RS} {ks : List (Int × Int × Int × Int)} {i : Nat} {a b c d : Int} (h : s.calls.map Ck.key = ks) (hi : ks[i]? = some (a, b, c, d)) : ∃ x, s.calls[i]? = some x ∧ x.vl = b ∧ x.cd = c ∧ x.ou = d := by
  rw [← h, List.getElem?_map] at hi
  cases hx : s.calls[i]? with
  | none => rw [hx] at hi; cases hi
  | some x =>
    rw [hx] at hi
    have e : x.key = (a, b, c, d) := Option.some.inj hi
    unfold Ck.key at e
    have e1 := Prod.mk.inj e
    have e2 := Prod.mk.inj e1.2
    have e3 := Prod.mk.inj e2.2
    exact ⟨x, rfl, e2.1, e3.1, e3.2⟩
section
variable {h n tu j : Nat}
theorem backKeys_len : (backKeys h n (givN h n tu)).length = 3 * n + 1 := by
  unfold backKeys
  simp only [List.length_append, List.length_map, List.length_range', List.length_reverse, givN_len, List.length_singleton]
  omega
theorem backKeys_a (hj : j < n) : (backKeys h n (givN h n tu))[j]? = some (4, 0, 0, ((h + j : Nat) : Int)) := by
  unfold backKeys
  rw [List.append_assoc, List.append_assoc, List.getElem?_append_left (by simp; exact hj), List.getElem?_map, List.getElem?_range' hj]
  simp
theorem backKeys_b (hj : j < n) : (backKeys h n (givN h n tu))[2 * n - 1 - j]? = some (5, ((h + (n - 1 - j + tu) % n : Nat) : Int), 0, 0) := by
  unfold backKeys
  rw [List.append_assoc, List.append_assoc, List.getElem?_append_right (by simp; omega), List.getElem?_append_left (by simp [givN_len]; omega), List.getElem?_map]
  rw [show 2 * n - 1 - j - ((List.range' h n).map fun x : Nat => ((4 : Int), (0 : Int), (0 : Int), (x : Int))).length = n - 1 - j by simp; omega, givN_get (by omega)]
  rfl
theorem backKeys_c (hj : j < n) : (backKeys h n (givN h n tu))[2 * n + j]? = some (4, 0, 0, ((h + (n - 1 - j + tu) % n : Nat) : Int)) := by
  unfold backKeys
  rw [List.append_assoc, List.getElem?_append_right (by simp [givN_len]; omega), List.getElem?_append_left (by simp [givN_len]; omega), List.getElem?_map]
  have e : 2 * n + j - ((((List.range' h n).map fun x : Nat => ((4 : Int), (0 : Int), (0 : Int), (x : Int))) ++ ((givN h n tu).map fun x : Nat => ((5 : Int), (x : Int), (0 : Int), (0 : Int)))).length) = j := by
    simp [givN_len]; omega
  rw [e, List.getElem?_reverse (by rw [givN_len]; exact hj), givN_len, givN_get (by omega)]
  rfl
theorem backKeys_d : (backKeys h n (givN h n tu))[3 * n]? = some (4, 0, 4, 0) := by
  unfold backKeys
  rw [List.getElem?_append_right (by simp [givN_len]; omega)]
  have e : 3 * n - ((((List.range' h n).map fun x : Nat => ((4 : Int), (0 : Int), (0 : Int), (x : Int))) ++ ((givN h n tu).map fun x : Nat => ((5 : Int), (x : Int), (0 : Int), (0 : Int))) ++ ((givN h n tu).reverse.map fun x : Nat => ((4 : Int), (0 : Int), (0 : Int), (x : Int)))).length) = 0 := by
    simp [givN_len]; omega
  rw [e]
  rfl
end
end Go.Proofs.Ytffppdcpiieapaa.Machc
