/- A part of the proof. -/
import Derived.Deep.MidRow
import Derived.Test.YtffppdcpiieapaaGreatP3
import Derived.Test.YtffppdcpiieapaaGreatP9
import Derived.Test.YtffppdcpiieapaaGreatP11
namespace Go.Proofs.YtffppdcpiieapaaGreat.Machc
open Go.RowKit Memc Refc
set_option linter.unusedVariables false
set_option maxRecDepth 100000

structure FS where
 kd : Int
 vl : Int
 t : Int
 d : Int
 pc : Int
 s : Int
 w : Int
 l : Int
 g : Int
 pos : Int
 seen : List Int
 second : Bool
 hold : Int
 give : Int
 back : Int
 chain : Int
 behind : Int
 raw : Acc
 code : Int
 out : Int
def FS.none : FS := ⟨0, 0, 0, 0, 0, 0, 0, 0, 0, 0, [], false, 0, 0, 0, 0, 0, ⟨0, 0, 0, 0, 0⟩, 0, 0⟩
instance : Inhabited FS := ⟨FS.none⟩
def FS.v (f : FS) (q : Sl) : List Value := [.int .i64 f.kd, .int .u32 f.vl, .int .i64 f.t, .int .i64 f.d, .int .i64 f.pc, .int .u64 f.s, .int .u64 f.w, .int .u64 f.l, .int .u64 f.g, .int .i64 f.pos, .slice q.A q.n q.c, .bool f.second, .int .u64 f.hold, .int .u64 f.give, .int .i64 f.back, .int .u32 f.chain, .int .i64 f.behind, .int .i64 f.raw.d, .int .i64 f.raw.ar, .int .i64 f.raw.at_, .int .u64 f.raw.old, .int .u64 f.raw.new, .int .i64 f.code, .int .u32 f.out]
theorem FS.one (f : FS) (q : Sl) : (f.v q).toArray.all (·.oneCell') = true := by simp [FS.v, Value.oneCell']
theorem f_size : (Tryz.prog.info? 107).map (·.size) = some 24 := by kernel_rfl
theorem FS.v_len (f : FS) (q : Sl) : (f.v q).length = 24 := rfl

structure RS where
 m : M
 on : List FS
 call : List Int
 at_ : List Int
 steps : List St
 calls : List Ck
def begR (s : RS) (t : Nat) (next : FS) (kd vl : Int) : RS :=
 { s with at_ := s.at_.set t (s.at_.getD t 0 + 1), on := s.on.set t next, call := s.call.set t s.calls.length, calls := s.calls ++ [⟨t, kd, vl, s.steps.length, -1, 0, 0⟩] }
def endK (c : Ck) (to : Int) (f : FS) : Ck := ⟨c.th, c.kd, c.vl, c.fr, to, f.code, f.out⟩
def goR (ask : FS -> Acc) (tell : FS -> Int -> Bool -> FS) (s : RS) (t : Nat) : RS :=
 let f := s.on.getD t FS.none
 let x := acc s.m (ask f)
 let f' := tell f x.2.1 x.2.2
 let k := (s.call.getD t 0).toNat
 ⟨x.1, s.on.set t f', if f'.pc = 0 then s.call.set t (-1) else s.call, s.at_, s.steps ++ [⟨t, ask f, x.2.1, x.2.2⟩], if f'.pc = 0 then s.calls.set k (endK (s.calls.getD k ⟨0, 0, 0, 0, 0, 0, 0⟩) s.steps.length f') else s.calls⟩

/-! ### cells that are written one behind the other -/
def setsA (c : Array Value) (o : Nat) : List Value -> Array Value
 | [] => c
 | v :: vs => setsA (c.setIfInBounds o v) (o + 1) vs
theorem setsA_size : ∀ (vs : List Value) (c : Array Value) (o : Nat), (setsA c o vs).size = c.size
 | [], c, o => rfl
 | v :: vs, c, o => by
   show (setsA (c.setIfInBounds o v) (o + 1) vs).size = _
   rw [setsA_size vs, Array.size_setIfInBounds]
theorem setsA_out : ∀ (vs : List Value) (c : Array Value) (o k : Nat), k < o \/ o + vs.length <= k -> (setsA c o vs)[k]? = c[k]?
 | [], c, o, k, _ => rfl
 | v :: vs, c, o, k, h => by
   simp only [List.length_cons] at h
   show (setsA (c.setIfInBounds o v) (o + 1) vs)[k]? = _
   rw [setsA_out vs _ _ _ (by omega), Array.getElem?_setIfInBounds_ne (by omega)]
theorem setsA_in : ∀ (vs : List Value) (c : Array Value) (o j : Nat) (v : Value), o + vs.length <= c.size -> vs[j]? = some v -> (setsA c o vs)[o + j]? = some v
 | [], c, o, j, v, _, h => by simp at h
 | u :: vs, c, o, 0, v, hs, h => by
   simp only [List.length_cons] at hs
   injection h with h
   subst h
   show (setsA (c.setIfInBounds o u) (o + 1) vs)[o + 0]? = _
   rw [setsA_out vs _ _ _ (by omega), Nat.add_zero]
   exact Array.getElem?_setIfInBounds_self_of_lt (by omega)
 | u :: vs, c, o, j + 1, v, hs, h => by
   simp only [List.length_cons] at hs
   have := setsA_in vs (c.setIfInBounds o u) (o + 1) j v (by rw [Array.size_setIfInBounds]; omega) (by simpa using h)
   rw [show o + (j + 1) = o + 1 + j by omega]
   exact this
theorem Blk.sets {g : Nat} {t : TypeId} : ∀ (vs : List Value) (w : World) (o : Nat) (c : Array Value), Blk w g t c -> Blk (w.setCells g o vs) g t (setsA c o vs)
 | [], w, o, c, h => h
 | v :: vs, w, o, c, h => Blk.sets vs _ _ _ (h.set_ o v)
theorem Only.sets {P : Nat -> Prop} {g : Nat} {w0 : World} (hp : P g \/ w0.heap.size <= g) : ∀ (vs : List Value) (w : World) (o : Nat), Only P w0 w -> Only P w0 (w.setCells g o vs)
 | [], w, o, h => h
 | v :: vs, w, o, h => Only.sets hp vs _ _ (h.set_ ⟨g, o, .none⟩ hp v)

/-! ### in memory -/
def OffQ (q : Sl) (b : Nat) : Prop := ∀ ad, 0 < q.n -> q.A = some ad -> ad.block ≠ b
def Mine (gR gO gC gA : Nat) (sS sK : Sl) (b : Nat) : Prop := b = gR \/ b = gO \/ b = gC \/ b = gA \/ bl sS b \/ bl sK b
def flatK (l : List Ck) : List Value := (l.map Ck.cells).flatten
def flatT (l : List St) : List Value := (l.map St.cells).flatten
theorem flatK_snoc (l : List Ck) (x : Ck) : flatK (l ++ [x]) = flatK l ++ x.cells := by simp [flatK]
theorem flatT_snoc (l : List St) (x : St) : flatT (l ++ [x]) = flatT l ++ x.cells := by simp [flatT]
theorem flatK_get : ∀ (l : List Ck) (i : Nat) (x : Ck) (j : Nat) (v : Value), l[i]? = some x -> x.cells[j]? = some v -> (flatK l)[i * 7 + j]? = some v
 | [], i, x, j, v, h, _ => by simp at h
 | y :: l, 0, x, j, v, h, hv => by
   injection h with h
   subst h
   have hj : j < y.cells.length := (List.getElem?_eq_some_iff.1 hv).1
   show (y.cells ++ flatK l)[0 * 7 + j]? = some v
   rw [Nat.zero_mul, Nat.zero_add, List.getElem?_append_left hj]
   exact hv
 | y :: l, i + 1, x, j, v, h, hv => by
   have := flatK_get l i x j v h hv
   show (y.cells ++ flatK l)[(i + 1) * 7 + j]? = some v
   have h7 : y.cells.length = 7 := rfl
   rw [List.getElem?_append_right (by omega), h7, show (i + 1) * 7 + j - 7 = i * 7 + j by omega]
   exact this
theorem flatK_end : ∀ (l : List Ck) (i : Nat) (x : Ck) (to : Int) (f : FS), l[i]? = some x -> (((flatK l).set (i * 7 + 4) (.int .i64 to)).set (i * 7 + 5) (.int .i64 f.code)).set (i * 7 + 6) (.int .u32 f.out) = flatK (l.set i (endK x to f))
 | [], i, x, to, f, h => by simp at h
 | y :: l, 0, x, to, f, h => by
   injection h with h
   subst h
   rfl
 | y :: l, i + 1, x, to, f, h => by
   have := flatK_end l i x to f (by simpa using h)
   have h7 : y.cells.length = 7 := rfl
   show (((y.cells ++ flatK l).set _ _).set _ _).set _ _ = y.cells ++ flatK (l.set i _)
   rw [List.set_append_right _ _ (by omega), List.set_append_right _ _ (by omega), List.set_append_right _ _ (by omega), h7,
     show (i + 1) * 7 + 4 - 7 = i * 7 + 4 by omega, show (i + 1) * 7 + 5 - 7 = i * 7 + 5 by omega, show (i + 1) * 7 + 6 - 7 = i * 7 + 6 by omega, this]

end Go.Proofs.YtffppdcpiieapaaGreat.Machc

namespace Go.Proofs.YtffppdcpiieapaaGreat.Machc
open Go.RowKit Memc Refc
set_option linter.unusedVariables false
set_option maxRecDepth 100000

structure Ir (w : World) (base gR gO gC gA co cc ca : Nat) (k : Int) (K T M : Nat) (r : R) (sS sK : Sl) (cO cC cA : Array Value) (qs : List Sl) (s : RS) : Prop where
 hR : Blk w gR 104 #[.int .i64 k, .int .i64 K, .int .i64 T, .int .i64 M, .int .u64 r.e, .int .u64 r.f, .slice r.L.A r.L.n r.L.c, .slice r.P.A r.P.n r.P.c, .int .u64 r.h, .int .u64 r.t, .slice r.K.A r.K.n r.K.c, .slice r.X.A r.X.n r.X.c, .slice r.S.A r.S.n r.S.c, .slice (some ⟨gO, 0, none⟩) T co, .slice (some ⟨gC, 0, none⟩) T cc, .slice (some ⟨gA, 0, none⟩) T ca, .slice sS.A sS.n sS.c, .slice sK.A sK.n sK.c, .int .u64 0, .int .u64 0, .slice none 0 0, .slice none 0 0, .int .u64 0, .int .u64 0, .slice none 0 0, .slice none 0 0, .slice none 0 0]
 hO : Blk w gO 107 cO
 hC : Blk w gC 3 cC
 hA : Blk w gA 3 cA
 hm : Rm w w.heap.size r s.m
 hS : Row w base 68 8 sS s.steps.length (flatT s.steps)
 hK : Row w base 50 7 sK s.calls.length (flatK s.calls)
 on : ∀ (i : Nat) (f : FS) (q : Sl), s.on[i]? = some f -> qs[i]? = some q -> ∀ (j : Nat) (v : Value), (f.v q)[j]? = some v -> cO[i * 24 + j]? = some v
 call : ∀ (i : Nat) (x : Int), s.call[i]? = some x -> cC[i]? = some (.int .i64 x)
 at_ : ∀ (i : Nat) (x : Int), s.at_[i]? = some x -> cA[i]? = some (.int .i64 x)
 offm : ∀ b, Mine gR gO gC gA sS sK b -> Off r b
 offb : ∀ b, b < base -> Off r b
 seen : ∀ (i : Nat) (f : FS) (q : Sl), s.on[i]? = some f -> qs[i]? = some q -> Rd w w.heap.size q f.seen /\ ∀ b, Mine gR gO gC gA sS sK b -> OffQ q b
 len : s.on.length = T /\ s.call.length = T /\ s.at_.length = T /\ qs.length = T /\ T * 24 <= cO.size
 cap : 1 <= T /\ T <= 8 /\ T <= co /\ co <= maxLen /\ T <= cc /\ cc <= maxLen /\ T <= ca /\ ca <= maxLen
 ne : gC ≠ gA
 few : Few s.m /\ s.steps.length <= 50000 /\ s.calls.length <= 50000
 low : base <= w.heap.size /\ base <= gR /\ base <= gO /\ base <= gC /\ base <= gA
theorem Mine.lt {w : World} {base gR gO gC gA co cc ca : Nat} {k : Int} {K T M : Nat} {r : R} {sS sK : Sl} {cO cC cA : Array Value} {qs : List Sl} {s : RS} (h : Ir w base gR gO gC gA co cc ca k K T M r sS sK cO cC cA qs s) {b : Nat} (hb : Mine gR gO gC gA sS sK b) : base <= b /\ b < w.heap.size := by
 rcases hb with rfl | rfl | rfl | rfl | hb | hb
 · exact ⟨h.low.2.1, h.hR.lt⟩
 · exact ⟨h.low.2.2.1, h.hO.lt⟩
 · exact ⟨h.low.2.2.2.1, h.hC.lt⟩
 · exact ⟨h.low.2.2.2.2, h.hA.lt⟩
 · exact h.hS.lt hb
 · exact h.hK.lt hb
theorem range24 {w : World} {g o : Nat} {cO : Array Value} {cs : List Value} (h : Blk w g 107 cO) (hf : ∀ (j : Nat) (v : Value), cs[j]? = some v -> cO[o + j]? = some v) : w.rangeAt g o cs := fun j v hj => (h.cell _).trans (hf j v hj)
theorem there24 {w : World} {g o : Nat} {cO : Array Value} (h : Blk w g 107 cO) (ho : o + 24 <= cO.size) : w.there g o 24 := fun j hj => ⟨by rw [h.cell, Array.getElem?_eq_getElem (by omega)]; rfl, h.frozen _⟩
theorem Ir.below {w w' : World} {base gR gO gC gA co cc ca : Nat} {k : Int} {K T M : Nat} {r : R} {sS sK : Sl} {cO cC cA : Array Value} {qs : List Sl} {s : RS} (h : Ir w base gR gO gC gA co cc ca k K T M r sS sK cO cC cA qs s) (hb : Below w.heap.size w w') : Ir w' base gR gO gC gA co cc ca k K T M r sS sK cO cC cA qs s where
 hR := h.hR.below hb h.hR.lt
 hO := h.hO.below hb h.hO.lt
 hC := h.hC.below hb h.hC.lt
 hA := h.hA.below hb h.hA.lt
 hm := (h.hm.below hb).more hb.size
 hS := h.hS.below hb (Nat.le_refl _)
 hK := h.hK.below hb (Nat.le_refl _)
 on := h.on
 call := h.call
 at_ := h.at_
 offm := h.offm
 offb := h.offb
 seen := fun i f q hf hq => ⟨((h.seen i f q hf hq).1.below hb).more hb.size, (h.seen i f q hf hq).2⟩
 len := h.len
 cap := h.cap
 ne := h.ne
 few := h.few
 low := ⟨Nat.le_trans h.low.1 hb.size, h.low.2⟩

end Go.Proofs.YtffppdcpiieapaaGreat.Machc

namespace Go.Proofs.YtffppdcpiieapaaGreat.Machc
open Go.RowKit Memc Refc
set_option linter.unusedVariables false
set_option maxRecDepth 100000

theorem Rd.only {P : Nat -> Prop} {w w' : World} {B : Nat} {s : Sl} {xs : List Int} (h : Rd w B s xs) (ho : Only P w w') (hB : B <= w.heap.size) (hp : ∀ ad, 0 < s.n -> s.A = some ad -> ¬ P ad.block) : Rd w' w'.heap.size s xs :=
 ⟨h.1, h.2.1, h.2.2.1, h.2.2.2.1, h.2.2.2.2.1, fun hn => by
   obtain ⟨ad, e, hb, hc⟩ := h.2.2.2.2.2 hn
   refine ⟨ad, e, Nat.lt_of_lt_of_le (Nat.lt_of_lt_of_le hb hB) ho.size, fun j u hu => ?_⟩
   rw [World.cell?_of_block (w := w) (a := ad.add j) (by rw [block_of_add]; exact ho.block _ (Nat.lt_of_lt_of_le hb hB) (hp ad hn e))]
   exact hc j u hu⟩
theorem Rm.only {P : Nat -> Prop} {w w' : World} {B : Nat} {r : R} {m : M} (h : Rm w B r m) (ho : Only P w w') (hB : B <= w.heap.size) (hp : ∀ b, P b -> Off r b) : Rm w' w'.heap.size r m :=
 have k : ∀ a, la a -> ∀ ad, 0 < (r.sl a).n -> (r.sl a).A = some ad -> ¬ P ad.block := fun a hl ad hn ha hP => hp _ hP a hl ad hn ha rfl
 ⟨h.1, h.2.1, h.2.2.1, h.2.2.2.1, h.2.2.2.2.1, Rd.only h.2.2.2.2.2.1 ho hB (k 3 (.inl rfl)), Rd.only h.2.2.2.2.2.2.1 ho hB (k 4 (.inr (.inl rfl))), Rd.only h.2.2.2.2.2.2.2.1 ho hB (k 7 (.inr (.inr (.inl rfl)))),
   Rd.only h.2.2.2.2.2.2.2.2.1 ho hB (k 8 (.inr (.inr (.inr (.inl rfl))))), Rd.only h.2.2.2.2.2.2.2.2.2 ho hB (k 9 (.inr (.inr (.inr (.inr rfl)))))⟩
theorem Ir.seens {w w' : World} {base gR gO gC gA co cc ca : Nat} {k : Int} {K T M : Nat} {r : R} {sS sK : Sl} {cO cC cA : Array Value} {qs : List Sl} {s : RS} (h : Ir w base gR gO gC gA co cc ca k K T M r sS sK cO cC cA qs s) {P : Nat -> Prop} (ho : Only P w w') (hP : ∀ b, P b -> Mine gR gO gC gA sS sK b) : ∀ (i : Nat) (f : FS) (q : Sl), s.on[i]? = some f -> qs[i]? = some q -> Rd w' w'.heap.size q f.seen /\ ∀ b, Mine gR gO gC gA sS sK b -> OffQ q b := fun i f q hf hq =>
 ⟨Rd.only (h.seen i f q hf hq).1 ho (Nat.le_refl _) (fun ad hn ha hp => (h.seen i f q hf hq).2 _ (hP _ hp) ad hn ha rfl), (h.seen i f q hf hq).2⟩
theorem Ir.setR {w w' : World} {base gR gO gC gA co cc ca : Nat} {k : Int} {K T M : Nat} {r : R} {sS sK : Sl} {cO cC cA : Array Value} {qs : List Sl} {s : RS} (h : Ir w base gR gO gC gA co cc ca k K T M r sS sK cO cC cA qs s) {r2 : R} {m2 : Memc.M} (ho : Only (fun g => g = gR) w w') (hR : Blk w' gR 104 #[.int .i64 k, .int .i64 K, .int .i64 T, .int .i64 M, .int .u64 r2.e, .int .u64 r2.f, .slice r2.L.A r2.L.n r2.L.c, .slice r2.P.A r2.P.n r2.P.c, .int .u64 r2.h, .int .u64 r2.t, .slice r2.K.A r2.K.n r2.K.c, .slice r2.X.A r2.X.n r2.X.c, .slice r2.S.A r2.S.n r2.S.c, .slice (some ⟨gO, 0, none⟩) T co, .slice (some ⟨gC, 0, none⟩) T cc, .slice (some ⟨gA, 0, none⟩) T ca, .slice sS.A sS.n sS.c, .slice sK.A sK.n sK.c, .int .u64 0, .int .u64 0, .slice none 0 0, .slice none 0 0, .int .u64 0, .int .u64 0, .slice none 0 0, .slice none 0 0, .slice none 0 0]) (hm : Rm w w.heap.size r2 m2) (hoff : ∀ b, Mine gR gO gC gA sS sK b -> Off r2 b) (hoffb : ∀ b, b < base -> Off r2 b) (hf : Few m2) :
   Ir w' base gR gO gC gA co cc ca k K T M r2 sS sK cO cC cA qs { s with m := m2 } where
 hR := hR
 hO := h.hO.only ho (Blk.ne h.hO h.hR (by decide))
 hC := h.hC.only ho (Blk.ne h.hC h.hR (by decide))
 hA := h.hA.only ho (Blk.ne h.hA h.hR (by decide))
 hm := Rm.only hm ho (Nat.le_refl _) (fun b hb => hoff b (.inl hb))
 hS := h.hS.only ho (h.hS.ne h.hR (by decide))
 hK := h.hK.only ho (h.hK.ne h.hR (by decide))
 on := h.on
 call := h.call
 at_ := h.at_
 offm := hoff
 offb := hoffb
 seen := h.seens ho (fun b hb => .inl hb)
 len := h.len
 cap := h.cap
 ne := h.ne
 few := ⟨hf, h.few.2⟩
 low := ⟨Nat.le_trans h.low.1 ho.size, h.low.2⟩
theorem Ir.stepd {w w' : World} {base gR gO gC gA co cc ca : Nat} {k : Int} {K T M : Nat} {r : R} {sS sK : Sl} {cO cC cA : Array Value} {qs : List Sl} {s : RS} (h : Ir w base gR gO gC gA co cc ca k K T M r sS sK cO cC cA qs s) {sS' : Sl} {x : St} (ho : Only (fun g => g = gR \/ bl sS g) w w') (hR : Blk w' gR 104 #[.int .i64 k, .int .i64 K, .int .i64 T, .int .i64 M, .int .u64 r.e, .int .u64 r.f, .slice r.L.A r.L.n r.L.c, .slice r.P.A r.P.n r.P.c, .int .u64 r.h, .int .u64 r.t, .slice r.K.A r.K.n r.K.c, .slice r.X.A r.X.n r.X.c, .slice r.S.A r.S.n r.S.c, .slice (some ⟨gO, 0, none⟩) T co, .slice (some ⟨gC, 0, none⟩) T cc, .slice (some ⟨gA, 0, none⟩) T ca, .slice sS'.A sS'.n sS'.c, .slice sK.A sK.n sK.c, .int .u64 0, .int .u64 0, .slice none 0 0, .slice none 0 0, .int .u64 0, .int .u64 0, .slice none 0 0, .slice none 0 0, .slice none 0 0]) (hS : Row w' base 68 8 sS' (s.steps.length + 1) (flatT s.steps ++ x.cells)) (hw : ∀ g, bl sS' g -> bl sS g \/ w.heap.size <= g) (hn : s.steps.length + 1 <= 50000) :
   Ir w' base gR gO gC gA co cc ca k K T M r sS' sK cO cC cA qs { s with steps := s.steps ++ [x] } := by
 have hP : ∀ b, (b = gR \/ bl sS b) -> Mine gR gO gC gA sS sK b := fun b hb => by
   rcases hb with hb | hb
   · exact .inl hb
   · exact .inr (.inr (.inr (.inr (.inl hb))))
 have hM : ∀ b, Mine gR gO gC gA sS' sK b -> Mine gR gO gC gA sS sK b \/ w.heap.size <= b := fun b hb => by
   rcases hb with hb | hb | hb | hb | hb | hb
   · exact .inl (.inl hb)
   · exact .inl (.inr (.inl hb))
   · exact .inl (.inr (.inr (.inl hb)))
   · exact .inl (.inr (.inr (.inr (.inl hb))))
   · rcases hw b hb with h1 | h1
     · exact .inl (.inr (.inr (.inr (.inr (.inl h1)))))
     · exact .inr h1
   · exact .inl (.inr (.inr (.inr (.inr (.inr hb)))))
 have two : ∀ {g : Nat} {t : TypeId} {cs : Array Value}, Blk w g t cs -> t ≠ 104 -> t ≠ 68 -> Blk w' g t cs := fun hb h1 h2 => hb.only ho (fun e => by
   rcases e with e | e
   · exact Blk.ne hb h.hR h1 e
   · exact h.hS.ne hb (Ne.symm h2) _ e rfl)
 refine ⟨hR, two h.hO (by decide) (by decide), two h.hC (by decide) (by decide), two h.hA (by decide) (by decide), Rm.only h.hm ho (Nat.le_refl _) (fun b hb => h.offm b (hP b hb)), ?_, ?_, h.on, h.call, h.at_, ?_, h.offb, ?_, h.len, h.cap, h.ne, ⟨h.few.1, ?_, h.few.2.2⟩, ⟨Nat.le_trans h.low.1 ho.size, h.low.2⟩⟩
 · show Row w' base _ 8 sS' (s.steps ++ [x]).length (flatT (s.steps ++ [x]))
   rw [List.length_append, flatT_snoc]
   exact hS
 · exact h.hK.only ho (fun g hg e => by
     rcases e with e | e
     · exact h.hK.ne h.hR (by decide) g hg e
     · exact h.hK.ne_row h.hS (by decide) g hg g e rfl)
 · intro b hb
   rcases hM b hb with h1 | h1
   · exact h.offm b h1
   · exact off_rm h.hm h1
 · intro i f q hf hq
   have h2 := h.seens ho hP i f q hf hq
   refine ⟨h2.1, fun b hb => ?_⟩
   rcases hM b hb with h1 | h1
   · exact h2.2 b h1
   · exact rd_off (h.seen i f q hf hq).1 h1
 · show (s.steps ++ [x]).length <= 50000
   rw [List.length_append]
   exact hn
theorem Ir.callsd {w w' : World} {base gR gO gC gA co cc ca : Nat} {k : Int} {K T M : Nat} {r : R} {sS sK : Sl} {cO cC cA : Array Value} {qs : List Sl} {s : RS} (h : Ir w base gR gO gC gA co cc ca k K T M r sS sK cO cC cA qs s) {sK' : Sl} {x : Ck} (ho : Only (fun g => g = gR \/ bl sK g) w w') (hR : Blk w' gR 104 #[.int .i64 k, .int .i64 K, .int .i64 T, .int .i64 M, .int .u64 r.e, .int .u64 r.f, .slice r.L.A r.L.n r.L.c, .slice r.P.A r.P.n r.P.c, .int .u64 r.h, .int .u64 r.t, .slice r.K.A r.K.n r.K.c, .slice r.X.A r.X.n r.X.c, .slice r.S.A r.S.n r.S.c, .slice (some ⟨gO, 0, none⟩) T co, .slice (some ⟨gC, 0, none⟩) T cc, .slice (some ⟨gA, 0, none⟩) T ca, .slice sS.A sS.n sS.c, .slice sK'.A sK'.n sK'.c, .int .u64 0, .int .u64 0, .slice none 0 0, .slice none 0 0, .int .u64 0, .int .u64 0, .slice none 0 0, .slice none 0 0, .slice none 0 0]) (hK : Row w' base 50 7 sK' (s.calls.length + 1) (flatK s.calls ++ x.cells)) (hw : ∀ g, bl sK' g -> bl sK g \/ w.heap.size <= g) (hn : s.calls.length + 1 <= 50000) :
   Ir w' base gR gO gC gA co cc ca k K T M r sS sK' cO cC cA qs { s with calls := s.calls ++ [x] } := by
 have hP : ∀ b, (b = gR \/ bl sK b) -> Mine gR gO gC gA sS sK b := fun b hb => by
   rcases hb with hb | hb
   · exact .inl hb
   · exact .inr (.inr (.inr (.inr (.inr hb))))
 have hM : ∀ b, Mine gR gO gC gA sS sK' b -> Mine gR gO gC gA sS sK b \/ w.heap.size <= b := fun b hb => by
   rcases hb with hb | hb | hb | hb | hb | hb
   · exact .inl (.inl hb)
   · exact .inl (.inr (.inl hb))
   · exact .inl (.inr (.inr (.inl hb)))
   · exact .inl (.inr (.inr (.inr (.inl hb))))
   · exact .inl (.inr (.inr (.inr (.inr (.inl hb)))))
   · rcases hw b hb with h1 | h1
     · exact .inl (.inr (.inr (.inr (.inr (.inr h1)))))
     · exact .inr h1
 have two : ∀ {g : Nat} {t : TypeId} {cs : Array Value}, Blk w g t cs -> t ≠ 104 -> t ≠ 50 -> Blk w' g t cs := fun hb h1 h2 => hb.only ho (fun e => by
   rcases e with e | e
   · exact Blk.ne hb h.hR h1 e
   · exact h.hK.ne hb (Ne.symm h2) _ e rfl)
 refine ⟨hR, two h.hO (by decide) (by decide), two h.hC (by decide) (by decide), two h.hA (by decide) (by decide), Rm.only h.hm ho (Nat.le_refl _) (fun b hb => h.offm b (hP b hb)), ?_, ?_, h.on, h.call, h.at_, ?_, h.offb, ?_, h.len, h.cap, h.ne, ⟨h.few.1, h.few.2.1, ?_⟩, ⟨Nat.le_trans h.low.1 ho.size, h.low.2⟩⟩
 · exact h.hS.only ho (fun g hg e => by
     rcases e with e | e
     · exact h.hS.ne h.hR (by decide) g hg e
     · exact h.hS.ne_row h.hK (by decide) g hg g e rfl)
 · show Row w' base _ 7 sK' (s.calls ++ [x]).length (flatK (s.calls ++ [x]))
   rw [List.length_append, flatK_snoc]
   exact hK
 · intro b hb
   rcases hM b hb with h1 | h1
   · exact h.offm b h1
   · exact off_rm h.hm h1
 · intro i f q hf hq
   have h2 := h.seens ho hP i f q hf hq
   refine ⟨h2.1, fun b hb => ?_⟩
   rcases hM b hb with h1 | h1
   · exact h2.2 b h1
   · exact rd_off (h.seen i f q hf hq).1 h1
 · show (s.calls ++ [x]).length <= 50000
   rw [List.length_append]
   exact hn
theorem Ir.ond {w w' : World} {base gR gO gC gA co cc ca : Nat} {k : Int} {K T M : Nat} {r : R} {sS sK : Sl} {cO cC cA : Array Value} {qs : List Sl} {s : RS} (h : Ir w base gR gO gC gA co cc ca k K T M r sS sK cO cC cA qs s) {t : Nat} {f : FS} {q : Sl} (ht : t < T) (ho : Only (fun g => g = gO) w w') (hO : Blk w' gO 107 (setsA cO (t * 24) (f.v q))) (hq : Rd w w.heap.size q f.seen) (hoff : ∀ b, Mine gR gO gC gA sS sK b -> OffQ q b) :
   Ir w' base gR gO gC gA co cc ca k K T M r sS sK (setsA cO (t * 24) (f.v q)) cC cA (qs.set t q) { s with on := s.on.set t f } where
 hR := h.hR.only ho (Blk.ne h.hR h.hO (by decide))
 hO := hO
 hC := h.hC.only ho (Blk.ne h.hC h.hO (by decide))
 hA := h.hA.only ho (Blk.ne h.hA h.hO (by decide))
 hm := Rm.only h.hm ho (Nat.le_refl _) (fun b hb => h.offm b (.inr (.inl hb)))
 hS := h.hS.only ho (h.hS.ne h.hO (by decide))
 hK := h.hK.only ho (h.hK.ne h.hO (by decide))
 on := fun i f' q' hf' hq' j v hv => by
   have hj : j < 24 := (List.getElem?_eq_some_iff.1 hv).1
   have hL := h.len
   by_cases hi : t = i
   · subst hi
     rw [List.getElem?_set_self (show t < s.on.length by omega)] at hf'
     rw [List.getElem?_set_self (show t < qs.length by omega)] at hq'
     have ef := Option.some.inj hf'
     have eq := Option.some.inj hq'
     subst ef
     subst eq
     exact setsA_in (f.v q) cO (t * 24) j v (by rw [FS.v_len]; have := hL.2.2.2.2; omega) hv
   · rw [List.getElem?_set_ne hi] at hf' hq'
     rw [setsA_out (f.v q) cO (t * 24) (i * 24 + j) (by rw [FS.v_len]; omega)]
     exact h.on i f' q' hf' hq' j v hv
 call := h.call
 at_ := h.at_
 offm := h.offm
 offb := h.offb
 seen := fun i f' q' hf' hq' => by
   have hL := h.len
   by_cases hi : t = i
   · subst hi
     rw [List.getElem?_set_self (show t < s.on.length by omega)] at hf'
     rw [List.getElem?_set_self (show t < qs.length by omega)] at hq'
     have ef := Option.some.inj hf'
     have eq := Option.some.inj hq'
     subst ef
     subst eq
     exact ⟨Rd.only hq ho (Nat.le_refl _) (fun ad hn ha hp => hoff _ (.inr (.inl hp)) ad hn ha rfl), hoff⟩
   · rw [List.getElem?_set_ne hi] at hf' hq'
     exact h.seens ho (fun b hb => .inr (.inl hb)) i f' q' hf' hq'
 len := ⟨by rw [List.length_set]; exact h.len.1, h.len.2.1, h.len.2.2.1, by rw [List.length_set]; exact h.len.2.2.2.1, by rw [setsA_size]; exact h.len.2.2.2.2⟩
 cap := h.cap
 ne := h.ne
 few := h.few
 low := ⟨Nat.le_trans h.low.1 ho.size, h.low.2⟩
theorem Ir.calld {w w' : World} {base gR gO gC gA co cc ca : Nat} {k : Int} {K T M : Nat} {r : R} {sS sK : Sl} {cO cC cA : Array Value} {qs : List Sl} {s : RS} (h : Ir w base gR gO gC gA co cc ca k K T M r sS sK cO cC cA qs s) {t : Nat} {x : Int} (ht : t < T) (ho : Only (fun g => g = gC) w w') (hC : Blk w' gC 3 (cC.setIfInBounds t (.int .i64 x))) :
   Ir w' base gR gO gC gA co cc ca k K T M r sS sK cO (cC.setIfInBounds t (.int .i64 x)) cA qs { s with call := s.call.set t x } where
 hR := h.hR.only ho (Blk.ne h.hR h.hC (by decide))
 hO := h.hO.only ho (Blk.ne h.hO h.hC (by decide))
 hC := hC
 hA := h.hA.only ho (fun e => h.ne e.symm)
 hm := Rm.only h.hm ho (Nat.le_refl _) (fun b hb => h.offm b (.inr (.inr (.inl hb))))
 hS := h.hS.only ho (h.hS.ne h.hC (by decide))
 hK := h.hK.only ho (h.hK.ne h.hC (by decide))
 on := h.on
 call := fun i y hy => by
   by_cases hi : t = i
   · subst hi
     have hlt : t < s.call.length := by have := h.len.2.1; omega
     rw [List.getElem?_set_self hlt] at hy
     injection hy with hy
     subst hy
     exact Array.getElem?_setIfInBounds_self_of_lt (Array.getElem?_eq_some_iff.1 (h.call t _ (List.getElem?_eq_getElem hlt))).1
   · rw [List.getElem?_set_ne hi] at hy
     rw [Array.getElem?_setIfInBounds_ne hi]
     exact h.call i y hy
 at_ := h.at_
 offm := h.offm
 offb := h.offb
 seen := h.seens ho (fun b hb => .inr (.inr (.inl hb)))
 len := ⟨h.len.1, by rw [List.length_set]; exact h.len.2.1, h.len.2.2⟩
 cap := h.cap
 ne := h.ne
 few := h.few
 low := ⟨Nat.le_trans h.low.1 ho.size, h.low.2⟩
theorem Ir.atd {w w' : World} {base gR gO gC gA co cc ca : Nat} {k : Int} {K T M : Nat} {r : R} {sS sK : Sl} {cO cC cA : Array Value} {qs : List Sl} {s : RS} (h : Ir w base gR gO gC gA co cc ca k K T M r sS sK cO cC cA qs s) {t : Nat} {x : Int} (ht : t < T) (ho : Only (fun g => g = gA) w w') (hA : Blk w' gA 3 (cA.setIfInBounds t (.int .i64 x))) :
   Ir w' base gR gO gC gA co cc ca k K T M r sS sK cO cC (cA.setIfInBounds t (.int .i64 x)) qs { s with at_ := s.at_.set t x } where
 hR := h.hR.only ho (Blk.ne h.hR h.hA (by decide))
 hO := h.hO.only ho (Blk.ne h.hO h.hA (by decide))
 hC := h.hC.only ho h.ne
 hA := hA
 hm := Rm.only h.hm ho (Nat.le_refl _) (fun b hb => h.offm b (.inr (.inr (.inr (.inl hb)))))
 hS := h.hS.only ho (h.hS.ne h.hA (by decide))
 hK := h.hK.only ho (h.hK.ne h.hA (by decide))
 on := h.on
 call := h.call
 at_ := fun i y hy => by
   by_cases hi : t = i
   · subst hi
     have hlt : t < s.at_.length := by have := h.len.2.2.1; omega
     rw [List.getElem?_set_self hlt] at hy
     injection hy with hy
     subst hy
     exact Array.getElem?_setIfInBounds_self_of_lt (Array.getElem?_eq_some_iff.1 (h.at_ t _ (List.getElem?_eq_getElem hlt))).1
   · rw [List.getElem?_set_ne hi] at hy
     rw [Array.getElem?_setIfInBounds_ne hi]
     exact h.at_ i y hy
 offm := h.offm
 offb := h.offb
 seen := h.seens ho (fun b hb => .inr (.inr (.inr (.inl hb))))
 len := ⟨h.len.1, h.len.2.1, by rw [List.length_set]; exact h.len.2.2.1, h.len.2.2.2⟩
 cap := h.cap
 ne := h.ne
 few := h.few
 low := ⟨Nat.le_trans h.low.1 ho.size, h.low.2⟩
theorem Ir.endd {w w' : World} {base gR gO gC gA co cc ca : Nat} {k : Int} {K T M : Nat} {r : R} {sS sK : Sl} {cO cC cA : Array Value} {qs : List Sl} {s : RS} (h : Ir w base gR gO gC gA co cc ca k K T M r sS sK cO cC cA qs s) {l : List Ck} (ho : Only (bl sK) w w') (hK : Row w' base 50 7 sK s.calls.length (flatK l)) (hl : l.length = s.calls.length) :
   Ir w' base gR gO gC gA co cc ca k K T M r sS sK cO cC cA qs { s with calls := l } := by
 have hP : ∀ b, bl sK b -> Mine gR gO gC gA sS sK b := fun b hb => .inr (.inr (.inr (.inr (.inr hb))))
 have two : ∀ {g : Nat} {t : TypeId} {cs : Array Value}, Blk w g t cs -> t ≠ 50 -> Blk w' g t cs := fun hb h2 => hb.only ho (fun e => h.hK.ne hb (Ne.symm h2) _ e rfl)
 refine ⟨two h.hR (by decide), two h.hO (by decide), two h.hC (by decide), two h.hA (by decide), Rm.only h.hm ho (Nat.le_refl _) (fun b hb => h.offm b (hP b hb)), h.hS.only ho (fun g hg e => h.hS.ne_row h.hK (by decide) g hg g e rfl), ?_, h.on, h.call, h.at_, h.offm, h.offb, h.seens ho hP, h.len, h.cap, h.ne, ⟨h.few.1, h.few.2.1, ?_⟩, ⟨Nat.le_trans h.low.1 ho.size, h.low.2⟩⟩
 · show Row w' base _ 7 sK l.length (flatK l)
   rw [hl]
   exact hK
 · show l.length <= 50000
   rw [hl]
   exact h.few.2.2

end Go.Proofs.YtffppdcpiieapaaGreat.Machc

namespace Go.Proofs.YtffppdcpiieapaaGreat.Machc
open Go.RowKit Memc Refc
set_option linter.unusedVariables false
set_option maxRecDepth 100000

set_option maxHeartbeats 2000000 in
theorem step_idle (w : World) (base gR gO gC gA co cc ca : Nat) (k : Int) (K T M : Nat) (r : R) (sS sK : Sl) (cO cC cA : Array Value) (qs : List Sl) (s : RS) (t : Nat) (next : FS) (nq : Sl) (kd vl : Int) (c0 : Int)
   (h : Ir w base gR gO gC gA co cc ca k K T M r sS sK cO cC cA qs s) (ht : t < T) (hc : s.call[t]? = some c0) (hlt : c0 < 0) :
   Calls Tryz.prog 47 #[.pointer (some ⟨gR, 0, none⟩), .int .i64 t, .agg (next.v nq).toArray, .int .i64 kd, .int .u32 vl, .bool false] w fun e w' => Ir w' base gR gO gC gA co cc ca k K T M r sS sK cO cC cA qs s /\ e = .returned (.bool false) /\ Below base w w' := by
 have HI := lh h
 have hr0 := HI.out.hR.cell
 have hr0l := HI.out.hR.lt
 have hcc := (HI.out.hC.cell t).trans (HI.out.call t c0 hc)
 have hccl := HI.out.hC.lt
 have t0 : (0 : Int) <= t := Int.natCast_nonneg _
 have t1 : (t : Int) < T := Int.ofNat_lt.2 ht
 clear h hc
 go_enter Tryz.func47, Tryz.ntmps47
 go_wp2
 go_ret
 exact ⟨HI.out.below ((Below.refl _ _).alloc (Nat.le_refl _) _), rfl, (Below.refl _ _).alloc HI.out.low.1 _⟩

end Go.Proofs.YtffppdcpiieapaaGreat.Machc
