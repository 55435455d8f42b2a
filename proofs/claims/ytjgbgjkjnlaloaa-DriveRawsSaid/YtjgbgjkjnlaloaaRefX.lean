/- Rows of words apart from a block: what a store into that block leaves. -/
import Derived.Test.YtjgbgjkjnlaloaaRefD
import Derived.Test.YtjgbgjkjnlaloaaApp
namespace Go.Proofs.Ytjgbgjkjnlaloaa.Refc
open Go.RowKit Go.Proofs.Ytjgbgjkjnlaloaa.Memc
set_option linter.unusedVariables false
set_option maxRecDepth 100000

/-- no row of r lies in block b -/
def Off (r : R) (b : Nat) : Prop := ∀ a, la a → ∀ ad, 0 < (r.sl a).n → (r.sl a).A = some ad → ad.block ≠ b

theorem Rd.far {w : World} {B : Nat} {s : Sl} {xs : List Int} (h : Rd w B s xs) {p : Addr} (hp : ∀ ad, 0 < s.n → s.A = some ad → ad.block ≠ p.block) (v : Value) : Rd (w.setCell p v) B s xs :=
  ⟨h.1, h.2.1, h.2.2.1, h.2.2.2.1, h.2.2.2.2.1, fun hn => by
    obtain ⟨ad, e, hb, hc⟩ := h.2.2.2.2.2 hn
    exact ⟨ad, e, hb, fun j u hu => (World.cell?_setCell_other w p _ v (fun e' => hp ad hn e (by rw [e', block_of_add]))).trans (hc j u hu)⟩⟩
theorem rd_nine {W : World} {B b : Nat} {s : Sl} {xs : List Int} (h : Rd W B s xs) (hne : ∀ ad, 0 < s.n → s.A = some ad → ad.block ≠ b) (r : R) : Rd (((((((((W.setCell ⟨b, 0, none⟩ (.int .u64 r.e)).setCell ⟨b, 1, none⟩ (.int .u64 r.f)).setCell ⟨b, 2, none⟩ (.slice r.L.A r.L.n r.L.c)).setCell ⟨b, 3, none⟩ (.slice r.P.A r.P.n r.P.c)).setCell ⟨b, 4, none⟩ (.int .u64 r.h)).setCell ⟨b, 5, none⟩ (.int .u64 r.t)).setCell ⟨b, 6, none⟩ (.slice r.K.A r.K.n r.K.c)).setCell ⟨b, 7, none⟩ (.slice r.X.A r.X.n r.X.c)).setCell ⟨b, 8, none⟩ (.slice r.S.A r.S.n r.S.c)) B s xs := by
  exact Rd.far (Rd.far (Rd.far (Rd.far (Rd.far (Rd.far (Rd.far (Rd.far (Rd.far h (p := ⟨b, 0, none⟩) hne _) (p := ⟨b, 1, none⟩) hne _) (p := ⟨b, 2, none⟩) hne _) (p := ⟨b, 3, none⟩) hne _) (p := ⟨b, 4, none⟩) hne _) (p := ⟨b, 5, none⟩) hne _) (p := ⟨b, 6, none⟩) hne _) (p := ⟨b, 7, none⟩) hne _) (p := ⟨b, 8, none⟩) hne _
theorem rm_nine {W : World} {B b : Nat} {q : R} {m : M} (h : Rm W B q m) (ho : Off q b) (r : R) : Rm (((((((((W.setCell ⟨b, 0, none⟩ (.int .u64 r.e)).setCell ⟨b, 1, none⟩ (.int .u64 r.f)).setCell ⟨b, 2, none⟩ (.slice r.L.A r.L.n r.L.c)).setCell ⟨b, 3, none⟩ (.slice r.P.A r.P.n r.P.c)).setCell ⟨b, 4, none⟩ (.int .u64 r.h)).setCell ⟨b, 5, none⟩ (.int .u64 r.t)).setCell ⟨b, 6, none⟩ (.slice r.K.A r.K.n r.K.c)).setCell ⟨b, 7, none⟩ (.slice r.X.A r.X.n r.X.c)).setCell ⟨b, 8, none⟩ (.slice r.S.A r.S.n r.S.c)) B q m :=
  ⟨h.1, h.2.1, h.2.2.1, h.2.2.2.1, h.2.2.2.2.1, rd_nine h.2.2.2.2.2.1 (ho 3 (.inl rfl)) r, rd_nine h.2.2.2.2.2.2.1 (ho 4 (.inr (.inl rfl))) r, rd_nine h.2.2.2.2.2.2.2.1 (ho 7 (.inr (.inr (.inl rfl)))) r,
    rd_nine h.2.2.2.2.2.2.2.2.1 (ho 8 (.inr (.inr (.inr (.inl rfl))))) r, rd_nine h.2.2.2.2.2.2.2.2.2 (ho 9 (.inr (.inr (.inr (.inr rfl))))) r⟩
theorem put_area (m : M) (a : Int) : m.put a (m.area a) = m := by
  refine M.ext_area fun b => ?_
  by_cases h : a = b
  · subst h; exact area_put_same m a _ rfl
  · exact area_put_other m a b _ h

/-- rows of q or s are off a block -/
theorem off_puts {r q : R} {s : Sl} {b : Nat} (h : ∀ a, la a → r.sl a = q.sl a ∨ r.sl a = s) (hq : Off q b) (hs : ∀ ad, s.A = some ad → ad.block ≠ b) : Off r b := fun a hl ad hn had => by
  rcases h a hl with e | e
  · exact hq a hl ad (by rw [← e]; exact hn) (by rw [← e]; exact had)
  · exact hs ad (by rw [← e]; exact had)
theorem rd_off {w : World} {B : Nat} {s : Sl} {xs : List Int} (h : Rd w B s xs) {b : Nat} (hb : B ≤ b) : ∀ ad, 0 < s.n → s.A = some ad → ad.block ≠ b := fun ad hn had => by
  obtain ⟨ad', e, hlt, _⟩ := h.2.2.2.2.2 hn
  rw [had] at e
  injection e with e
  subst e
  omega
/-- rows that are read below a block are off it -/
theorem off_rm {w : World} {B : Nat} {r : R} {m : M} (h : Rm w B r m) {b : Nat} (hb : B ≤ b) : Off r b := fun a hl => by
  rcases hl with rfl | rfl | rfl | rfl | rfl
  · exact rd_off h.2.2.2.2.2.1 hb
  · exact rd_off h.2.2.2.2.2.2.1 hb
  · exact rd_off h.2.2.2.2.2.2.2.1 hb
  · exact rd_off h.2.2.2.2.2.2.2.2.1 hb
  · exact rd_off h.2.2.2.2.2.2.2.2.2 hb
theorem made_empty {w : World} {base : Nat} (hb : base ≤ w.heap.size) : Own (w.alloc (.cells #[] 22)) base ⟨some ⟨w.heap.size, 0, none⟩, 0, 0⟩ [] :=
  ⟨u64s_nil, World.ownsRow_made w _ 0 hb (Nat.zero_le _) (by simp)⟩

end Go.Proofs.Ytjgbgjkjnlaloaa.Refc
