/- The document's machines of the layers 4 to 8, as mathematics: what is asked for, and what it comes to, access by access. · What a call asks its doer, and what it is told: through the methods Read, Write, Swap. · Ahead of Take and Give: how a call goes on, and what a swap of the free list's head comes to. · Take, by contract: in any call, from any access on. -/
import Derived.WalkMore
import Derived.ScopeJumps
import Derived.Test.YtffppdcpiieapaaP4
import Derived.Test.YtffppdcpiieapaaP14
import Derived.Test.YtffppdcpiieapaaP15
namespace Go.Proofs.Ytffppdcpiieapaa.Arenac
open Go.RowKit Go.Proofs.Ytffppdcpiieapaa.Memc Go.Proofs.Ytffppdcpiieapaa.Procc Go.Proofs.Ytffppdcpiieapaa.Machc Go.Proofs.Ytffppdcpiieapaa.Drivec Go.Proofs.Ytffppdcpiieapaa.Wordc
set_option linter.unusedVariables false
set_option maxRecDepth 100000

def lo (x : Int) : Int := x % 4294967296
def hi (x : Int) : Int := x / 4294967296
def pk (h l : Int) : Int := h * 4294967296 + l
def up (h : Int) : Int := (h + 1) % 4294967296
def dec (h : Int) : Int := (h - 1) % 4294967296
def w64 (x : Int) : Int := x % 18446744073709551616
def hnd (w : Int) : Int := lo w - 1
def plc (K : Nat) (h d p : Int) : Int := h * K + (d + p) % K
def slotW (r v : Int) : Int := pk r (up v)
def atD (k : Int) (K M : Nat) (f : FS) : Int := if k = 2 then plc K (f.s % M) f.d f.pos else plc K (hnd f.s) f.d f.pos
def isVal (w r : Int) : Prop := hi w = r ∧ ¬ lo w = 0
instance (w r : Int) : Decidable (isVal w r) := by unfold isVal; infer_instance
/-- a word -/
def W64 (x : Int) : Prop := 0 ≤ x ∧ x ≤ 18446744073709551615
end Go.Proofs.Ytffppdcpiieapaa.Arenac
namespace Go.Proofs.Ytffppdcpiieapaa.Machc
open Go.RowKit Go.Proofs.Ytffppdcpiieapaa.Memc Go.Proofs.Ytffppdcpiieapaa.Arenac
/-- a call comes out -/
def FS.ends (f : FS) (k code : Int) : FS := { f with code := code, pc := if ¬ f.hold = 0 ∧ ¬ f.kd = 4 then 19 else if k = 2 ∨ f.kd = 4 then 0 else 4 }
/-- to the next slot -/
def FS.onw (f : FS) (K : Nat) (again behind : Int) : FS := if f.pos + 1 = K then { f with pos := 0, pc := behind } else { f with pos := f.pos + 1, pc := again }
def FS.bare (f : FS) (r : Int) : Bool := f.seen.any fun x => x == pk r 0
def FS.looks (f : FS) (k : Int) (K M : Nat) (was again second behind : Int) : FS :=
  let g : FS := { f with seen := f.seen ++ [was] }
  if f.pos + 1 = K ∧ g.bare (lifeM k M g) = true then g.onw K again second else g.onw K again behind
def FS.need (f : FS) (wth held : Int) : FS := { f with back := wth, pc := if ¬ f.hold = 0 then held else 90 }
def FS.gives (f : FS) (ref back : Int) : FS := { f with give := ref, back := back, pc := 95 }
def FS.chained (f : FS) (chain behind : Int) : FS := { f with chain := chain, behind := behind, pc := if chain = 0 then behind else 86 }
def FS.begins (f : FS) (s : Int) : FS := { f with s := s, pos := 0, seen := [], second := false }
def FS.taken (f : FS) (k : Int) : FS := ({ f with out := dec (lo f.w) } : FS).ends k 0
def FS.forty (f : FS) : FS := if f.pc = 43 then f.need 44 45 else f
end Go.Proofs.Ytffppdcpiieapaa.Machc
namespace Go.Proofs.Ytffppdcpiieapaa.Arenac
open Go.RowKit Go.Proofs.Ytffppdcpiieapaa.Memc Go.Proofs.Ytffppdcpiieapaa.Procc Go.Proofs.Ytffppdcpiieapaa.Machc Go.Proofs.Ytffppdcpiieapaa.Drivec Go.Proofs.Ytffppdcpiieapaa.Wordc
set_option linter.unusedVariables false
set_option maxRecDepth 100000

/-- what is asked for -/
def docAsk (k : Int) (K M : Nat) (f : FS) : Acc :=
  if f.pc = 99 then f.raw
  else if f.pc = 1 ∨ f.pc = 3 ∨ f.pc = 30 ∨ f.pc = 33 ∨ f.pc = 80 then ⟨1, 1, 0, 0, 0⟩
  else if f.pc = 2 then ⟨2, 4, f.t, 0, w64 (f.g + 1)⟩
  else if f.pc = 4 then ⟨2, 4, f.t, 0, 0⟩
  else if f.pc = 10 ∨ f.pc = 25 ∨ f.pc = 60 ∨ f.pc = 74 then ⟨1, 6, 0, 0, 0⟩
  else if f.pc = 20 ∨ f.pc = 40 ∨ f.pc = 50 ∨ f.pc = 63 ∨ f.pc = 70 then ⟨1, 5, 0, 0, 0⟩
  else if f.pc = 11 ∨ f.pc = 21 ∨ f.pc = 23 ∨ f.pc = 41 ∨ f.pc = 51 ∨ f.pc = 53 ∨ f.pc = 61 ∨ f.pc = 71 ∨ f.pc = 73 then ⟨1, 9, atD k K M f, 0, 0⟩
  else if f.pc = 12 ∨ f.pc = 42 ∨ f.pc = 62 then ⟨3, 9, atD k K M f, pk (lifeM k M f) 0, slotW (lifeM k M f) f.vl⟩
  else if f.pc = 22 ∨ f.pc = 52 ∨ f.pc = 54 ∨ f.pc = 72 then ⟨3, 9, atD k K M f, f.w, pk (up (lifeM k M f)) 0⟩
  else if f.pc = 55 then ⟨3, 9, atD k K M f, pk (lifeM k M f) 0, pk (up (lifeM k M f)) 0⟩
  else if f.pc = 13 ∨ f.pc = 24 ∨ f.pc = 56 then ⟨1, 8, hnd f.s, 0, 0⟩
  else if f.pc = 14 then ⟨3, 6, 0, f.s, f.w⟩
  else if f.pc = 15 then ⟨2, 8, hnd f.hold, 0, 0⟩
  else if f.pc = 16 ∨ f.pc = 44 then ⟨2, 9, plc K (hnd f.hold) f.d 0, 0, slotW (hi f.hold) f.vl⟩
  else if f.pc = 17 then ⟨3, 8, hnd f.s, 0, f.hold⟩
  else if f.pc = 18 then ⟨3, 6, 0, f.s, f.hold⟩
  else if f.pc = 19 then ⟨2, 9, plc K (hnd f.hold) f.d 0, 0, pk (hi f.hold) 0⟩
  else if f.pc = 26 then ⟨3, 6, 0, f.s, f.l⟩
  else if f.pc = 27 ∨ f.pc = 57 then ⟨3, 5, 0, f.s, f.l⟩
  else if f.pc = 31 then ⟨1, 4, f.pos, 0, 0⟩
  else if f.pc = 32 then ⟨3, 1, 0, f.g, w64 (f.g + 1)⟩
  else if f.pc = 34 then ⟨1, 3, w64 (f.g + 1) % 3, 0, 0⟩
  else if f.pc = 35 then ⟨3, 3, w64 (f.g + 1) % 3, f.w, pk (hi f.w) 0⟩
  else if f.pc = 45 then ⟨2, 8, hnd f.hold, 0, f.s⟩
  else if f.pc = 46 then ⟨3, 5, 0, f.s, f.hold⟩
  else if f.pc = 64 then ⟨3, 6, 0, f.s, w64 (f.s + 1)⟩
  else if f.pc = 75 then ⟨3, 5, 0, f.s, w64 (f.s + 1)⟩
  else if f.pc = 81 then ⟨1, 3, f.g % 3, 0, 0⟩
  else if f.pc = 82 then ⟨3, 3, f.g % 3, f.w, pk (hi f.w) 0⟩
  else if f.pc = 83 then ⟨2, 7, hnd f.s, 0, pk (up (hi f.s)) (lo f.w)⟩
  else if f.pc = 84 then ⟨3, 3, f.g % 3, f.w, pk (lo f.g) (lo f.s)⟩
  else if f.pc = 86 then ⟨1, 7, f.chain - 1, 0, 0⟩
  else if f.pc = 90 ∨ f.pc = 95 then ⟨1, 2, 0, 0, 0⟩
  else if f.pc = 91 then ⟨1, 7, hnd f.w, 0, 0⟩
  else if f.pc = 92 then ⟨3, 2, 0, f.w, pk (up (hi f.w)) (lo f.l)⟩
  else if f.pc = 96 then ⟨2, 7, hnd f.give, 0, pk (hi f.give) (lo f.w)⟩
  else if f.pc = 97 then ⟨3, 2, 0, f.w, pk (up (hi f.w)) (lo f.give)⟩
  else ⟨0, 0, 0, 0, 0⟩
/-- what it comes to -/
def docTell (k : Int) (K T M : Nat) (f : FS) (was : Int) (dn : Bool) : FS :=
  if f.pc = 99 then ({ f with out := num dn, pc := 0 })
  else if f.pc = 1 then ({ f with g := was, pc := 2 })
  else if f.pc = 2 then ({ f with pc := 3 })
  else if f.pc = 3 then (if ¬ was = f.g then { f with g := was, pc := 2 } else if f.kd = 6 then { f with pc := 0 } else { f with pc := if k = 1 then (if f.kd = 1 then 10 else 20) else (if f.kd = 1 then 40 else 50) })
  else if f.pc = 4 then ({ f with pc := 0 })
  else if f.pc = 10 then ({ f.begins was with pc := 11 })
  else if f.pc = 11 then (if was = pk (lifeM k M f) 0 then { f with pc := 12 } else f.onw K 11 13)
  else if f.pc = 12 then (if dn then f.ends k 0 else f.onw K 11 13)
  else if f.pc = 13 then (if ¬ was = 0 then { f with w := was, pc := 14 } else f.need 15 17)
  else if f.pc = 14 then ({ f with pc := 10 })
  else if f.pc = 15 then ({ f with pc := 16 })
  else if f.pc = 16 then ({ f with pc := 17 })
  else if f.pc = 17 then ({ f with pc := if dn then 18 else 10 })
  else if f.pc = 18 then (({ f with hold := 0 } : FS).ends k 0)
  else if f.pc = 19 then (f.gives f.hold 4)
  else if f.pc = 20 then ({ f.begins was with pc := 21 })
  else if f.pc = 21 then (if isVal was (lifeM k M f) then { f with w := was, pc := 22 } else f.looks k K M was 21 23 24)
  else if f.pc = 22 then (if dn then f.taken k else if f.second then { f with pc := 20 } else f.looks k K M was 21 23 24)
  else if f.pc = 23 then (if isVal was (lifeM k M f) then { f with second := true, w := was, pc := 22 } else if ¬ was = f.seen.getD f.pos.toNat 0 then { f with pc := 20 } else if f.pos + 1 = K then f.ends k 2 else f.onw K 23 23)
  else if f.pc = 24 then (if was = 0 then f.ends k 2 else { f with l := was, pc := 25 })
  else if f.pc = 25 then ({ f with pc := if was = f.s then 26 else 27 })
  else if f.pc = 26 then ({ f with pc := 27 })
  else if f.pc = 27 then ({ f with behind := 20, back := 20, pc := if dn then 80 else 20 })
  else if f.pc = 30 then ({ f with g := was, pos := 0, pc := 31 })
  else if f.pc = 31 then (if ¬ was = 0 ∧ ¬ was = w64 (f.g + 1) then { f with pc := 33 } else { f with pos := f.pos + 1, pc := if f.pos + 1 = T then 32 else 31 })
  else if f.pc = 32 then ({ f with pc := 33 })
  else if f.pc = 33 then ({ f with g := was, pc := 34 })
  else if f.pc = 34 then ({ f with w := was, pc := if lo was = 0 ∨ hi was + 2 > f.g then 0 else 35 })
  else if f.pc = 35 then (if dn then f.chained (lo f.w) 0 else { f with pc := 0 })
  else if f.pc = 40 then (if lo was = 0 then (f.begins was).need 44 45 else { f.begins was with pc := 41 })
  else if f.pc = 41 then (if was = pk (lifeM k M f) 0 then { f with pc := 42 } else (f.onw K 41 43).forty)
  else if f.pc = 42 then (if dn then f.ends k 0 else (f.onw K 41 43).forty)
  else if f.pc = 44 then ({ f with pc := 45 })
  else if f.pc = 45 then ({ f with pc := 46 })
  else if f.pc = 46 then (if dn then ({ f with hold := 0 } : FS).ends k 0 else { f with pc := 40 })
  else if f.pc = 50 then (if lo was = 0 then f.ends k 2 else { f.begins was with pc := 51 })
  else if f.pc = 51 then (if isVal was (lifeM k M f) then { f with w := was, pc := 52 } else f.onw K 51 53)
  else if f.pc = 52 then (if dn then f.taken k else f.onw K 51 53)
  else if f.pc = 53 then (if isVal was (lifeM k M f) then { f with w := was, pc := 54 } else if was = pk (lifeM k M f) 0 then { f with pc := 55 } else f.onw K 53 56)
  else if f.pc = 54 then (if dn then f.taken k else f.onw K 53 56)
  else if f.pc = 55 then (if dn then f.onw K 53 56 else { f with pc := 53 })
  else if f.pc = 56 then ({ f with l := was, pc := 57 })
  else if f.pc = 57 then ({ f with pc := if dn then 80 else 50 })
  else if f.pc = 60 then ({ f.begins was with pc := 61 })
  else if f.pc = 61 then (if was = pk (lifeM k M f) 0 then { f with pc := 62 } else f.onw K 61 63)
  else if f.pc = 62 then (if dn then f.ends k 0 else f.onw K 61 63)
  else if f.pc = 63 then (if f.s ≥ w64 (w64 (was + M) - 1) then f.ends k 3 else { f with pc := 64 })
  else if f.pc = 64 then ({ f with pc := 60 })
  else if f.pc = 70 then ({ f.begins was with pc := 71 })
  else if f.pc = 71 then (if isVal was (lifeM k M f) then { f with w := was, pc := 72 } else f.looks k K M was 71 73 74)
  else if f.pc = 72 then (if dn then f.taken k else if f.second then { f with pc := 70 } else f.looks k K M was 71 73 74)
  else if f.pc = 73 then (if isVal was (lifeM k M f) then { f with second := true, w := was, pc := 72 } else if ¬ was = f.seen.getD f.pos.toNat 0 then { f with pc := 70 } else if f.pos + 1 = K then f.ends k 2 else f.onw K 73 73)
  else if f.pc = 74 then (if was = f.s then f.ends k 2 else { f with pc := 75 })
  else if f.pc = 75 then ({ f with pc := 70 })
  else if f.pc = 80 then ({ f with g := was, pc := 81 })
  else if f.pc = 81 then ({ f with w := was, pc := if ¬ lo was = 0 ∧ ¬ hi was = lo f.g then 82 else 83 })
  else if f.pc = 82 then (if dn then f.chained (lo f.w) 81 else { f with pc := 81 })
  else if f.pc = 83 then ({ f with pc := 84 })
  else if f.pc = 84 then (if dn then { f with pc := if f.kd = 8 then 0 else if k = 1 then 20 else 50 } else { f with pc := 81 })
  else if f.pc = 86 then (({ f with chain := lo was } : FS).gives (pk (hi was) f.chain) 87)
  else if f.pc = 90 then (if lo was = 0 then f.ends k 4 else { f with w := was, pc := 91 })
  else if f.pc = 91 then ({ f with l := was, pc := 92 })
  else if f.pc = 92 then (if dn then (if f.kd = 4 then { f with hold := pk (hi f.l) (lo f.w), out := dec (lo f.w), pc := 0 } else { f with hold := pk (hi f.l) (lo f.w), pc := f.back }) else { f with pc := 90 })
  else if f.pc = 95 then ({ f with w := was, pc := 96 })
  else if f.pc = 96 then ({ f with pc := 97 })
  else if f.pc = 97 then (if dn then (if f.back = 87 then f.chained f.chain f.behind else { f with pc := f.back }) else { f with pc := 95 })
  else f.forty
def docBg (k : Int) (K M : Nat) (t kd vl d : Int) : FS :=
  let f : FS := { FS.none with kd := kd, vl := vl, t := t, d := d % K, pc := 1 }
  if kd = 3 then { f with pc := 30 }
  else if kd = 4 then { f with pc := 90 }
  else if kd = 5 then f.gives (vl % M + 1) 0
  else if kd = 7 then { f with pc := 4 }
  else if kd = 8 then { f with s := vl % M + 1, pc := 80 }
  else if k = 2 ∧ kd = 1 then { f with pc := 60 }
  else if k = 2 ∧ kd = 2 then { f with pc := 70 }
  else f
def docZ (k : Int) (K T M : Nat) : Mac := ⟨docBg k K M, docAsk k K M, docTell k K T M⟩
section
variable {k : Int} {K T M : Nat} {f : FS}
theorem ask90 (h : f.pc = 90) : docAsk k K M f = ⟨1, 2, 0, 0, 0⟩ := by simp [docAsk, h]
theorem ask95 (h : f.pc = 95) : docAsk k K M f = ⟨1, 2, 0, 0, 0⟩ := by simp [docAsk, h]
theorem ask91 (h : f.pc = 91) : docAsk k K M f = ⟨1, 7, hnd f.w, 0, 0⟩ := by simp [docAsk, h]
theorem ask92 (h : f.pc = 92) : docAsk k K M f = ⟨3, 2, 0, f.w, pk (up (hi f.w)) (lo f.l)⟩ := by simp [docAsk, h]
theorem ask96 (h : f.pc = 96) : docAsk k K M f = ⟨2, 7, hnd f.give, 0, pk (hi f.give) (lo f.w)⟩ := by simp [docAsk, h]
theorem ask97 (h : f.pc = 97) : docAsk k K M f = ⟨3, 2, 0, f.w, pk (up (hi f.w)) (lo f.give)⟩ := by simp [docAsk, h]
theorem tell90 (was : Int) (dn : Bool) (h : f.pc = 90) : docTell k K T M f was dn = (if lo was = 0 then f.ends k 4 else { f with w := was, pc := 91 }) := by simp only [docTell, h, Int.reduceEq, if_false, if_true]
theorem tell91 (was : Int) (dn : Bool) (h : f.pc = 91) : docTell k K T M f was dn = ({ f with l := was, pc := 92 }) := by simp only [docTell, h, Int.reduceEq, if_false, if_true]
theorem tell92 (was : Int) (dn : Bool) (h : f.pc = 92) : docTell k K T M f was dn = (if dn then (if f.kd = 4 then { f with hold := pk (hi f.l) (lo f.w), out := dec (lo f.w), pc := 0 } else { f with hold := pk (hi f.l) (lo f.w), pc := f.back }) else { f with pc := 90 }) := by simp only [docTell, h, Int.reduceEq, if_false, if_true]
theorem tell95 (was : Int) (dn : Bool) (h : f.pc = 95) : docTell k K T M f was dn = ({ f with w := was, pc := 96 }) := by simp only [docTell, h, Int.reduceEq, if_false, if_true]
theorem tell96 (was : Int) (dn : Bool) (h : f.pc = 96) : docTell k K T M f was dn = ({ f with pc := 97 }) := by simp only [docTell, h, Int.reduceEq, if_false, if_true]
theorem tell97 (was : Int) (dn : Bool) (h : f.pc = 97) : docTell k K T M f was dn = (if dn then (if f.back = 87 then f.chained f.chain f.behind else { f with pc := f.back }) else { f with pc := 95 }) := by simp only [docTell, h, Int.reduceEq, if_false, if_true]
end
/-- nothing was told behind the end -/
theorem over_at {Z : Mac} {f0 : FS} {fs : List (Int × Bool)} (h : Going (Z.plan f0) fs) {k : Nat} (hk : k ≤ fs.length) (hp : (Z.after f0 (fs.take k)).pc = 0) : k = fs.length := by
  rcases Nat.lt_or_ge k fs.length with hlt | hge
  · obtain ⟨a, ha⟩ := h.1 k hlt
    have : Z.nx (Z.after f0 (fs.take k)) = .ask a := ha
    rw [Mac.nx_fin hp] at this
    cases this
  · omega
theorem take_succ_get {α : Type} {l : List α} {k : Nat} {x : α} (h : l[k]? = some x) : l.take (k + 1) = l.take k ++ [x] := by rw [List.take_add_one, h]; rfl
theorem after_next {Z : Mac} {f0 : FS} {fs : List (Int × Bool)} {k : Nat} {x : Int × Bool} (h : fs[k]? = some x) : Z.after f0 (fs.take (k + 1)) = Z.tell (Z.after f0 (fs.take k)) x.1 x.2 := by rw [take_succ_get h, Mac.after_snoc]
theorem plan_at {Z : Mac} {k : Nat} {f0 f : FS} {fs : List (Int × Bool)} (hk : k = fs.length) (h : Z.after f0 (fs.take k) = f) : Z.plan f0 fs = Z.nx f := by
  rw [hk, List.take_length] at h
  rw [← h]; rfl
end Go.Proofs.Ytffppdcpiieapaa.Arenac

namespace Go.Proofs.Ytffppdcpiieapaa.Arenac
open Go.RowKit Go.Proofs.Ytffppdcpiieapaa.Memc Go.Proofs.Ytffppdcpiieapaa.Procc Go.Proofs.Ytffppdcpiieapaa.Machc Go.Proofs.Ytffppdcpiieapaa.Drivec Go.Proofs.Ytffppdcpiieapaa.Wordc
set_option linter.unusedVariables false
set_option maxRecDepth 100000

theorem read_ask (W : World) (base gn gp gm gx P k : Nat) (run : Value) (s : Sl) (fs : List (Int × Bool)) (ask ov : Bool) (cd ou : Int) (h : Env W base gn gp gm gx P k run s fs ask ov cd ou) (hk : k = fs.length) (ar at_ : Int) :
    Calls Try.prog 76 #[.func (.func 149) #[] #[.pointer (some ⟨gn, 0, none⟩), .pointer (some ⟨gp, 0, none⟩), .pointer (some ⟨gm, 0, none⟩), .pointer (some ⟨gx, 0, none⟩)], .int .i64 ar, .int .i64 at_] W (Asked W gm gx ⟨1, ar, at_, 0, 0⟩) := by
  have ha : Calls Try.prog 149 #[.agg #[.int .i64 1, .int .i64 ar, .int .i64 at_, .int .u64 0, .int .u64 0], .pointer (some ⟨gn, 0, none⟩), .pointer (some ⟨gp, 0, none⟩), .pointer (some ⟨gm, 0, none⟩), .pointer (some ⟨gx, 0, none⟩)] W (Asked W gm gx ⟨1, ar, at_, 0, 0⟩) := h.asks hk ⟨1, ar, at_, 0, 0⟩
  have HA := Lib.hid ha
  clear ha h
  go_enter Try.func76, Try.ntmps76
  go_wp2_with (go_at_call 149; (with_reducible refine HA.out.mono ?_); rintro e w1 ⟨rfl, h1⟩; have H1 := Lib.hid h1; clear h1)
  exact ⟨rfl, rfl, H1.out⟩
theorem read_tell (W : World) (base gn gp gm gx P k : Nat) (run : Value) (s : Sl) (fs : List (Int × Bool)) (ask ov : Bool) (cd ou : Int) (x : Int × Bool) (h : Env W base gn gp gm gx P k run s fs ask ov cd ou) (hx : fs[k]? = some x) (ar at_ : Int) :
    Calls Try.prog 76 #[.func (.func 149) #[] #[.pointer (some ⟨gn, 0, none⟩), .pointer (some ⟨gp, 0, none⟩), .pointer (some ⟨gm, 0, none⟩), .pointer (some ⟨gx, 0, none⟩)], .int .i64 ar, .int .i64 at_] W fun e w' => e = .returned (.int .u64 x.1) ∧ Env w' base gn gp gm gx P (k + 1) run s fs ask ov cd ou ∧ Only (fun g => g = gn) W w' := by
  have ha : Calls Try.prog 149 #[.agg #[.int .i64 1, .int .i64 ar, .int .i64 at_, .int .u64 0, .int .u64 0], .pointer (some ⟨gn, 0, none⟩), .pointer (some ⟨gp, 0, none⟩), .pointer (some ⟨gm, 0, none⟩), .pointer (some ⟨gx, 0, none⟩)] W _ := h.tells hx ⟨1, ar, at_, 0, 0⟩
  have HA := Lib.hid ha
  clear ha h
  go_enter Try.func76, Try.ntmps76
  go_wp2_with (go_at_call 149; (with_reducible refine HA.out.mono ?_); rintro e w1 ⟨rfl, h1⟩; have H1 := Lib.hid h1; clear h1)
  first | go_ret2 | go_ret | go_end0 | refine bodyPost_ret (results_none rfl _ _ _) rfl ?_
  exact ⟨rfl, H1.out⟩
theorem write_ask (W : World) (base gn gp gm gx P k : Nat) (run : Value) (s : Sl) (fs : List (Int × Bool)) (ask ov : Bool) (cd ou : Int) (h : Env W base gn gp gm gx P k run s fs ask ov cd ou) (hk : k = fs.length) (ar at_ nw : Int) :
    Calls Try.prog 77 #[.func (.func 149) #[] #[.pointer (some ⟨gn, 0, none⟩), .pointer (some ⟨gp, 0, none⟩), .pointer (some ⟨gm, 0, none⟩), .pointer (some ⟨gx, 0, none⟩)], .int .i64 ar, .int .i64 at_, .int .u64 nw] W (Asked W gm gx ⟨2, ar, at_, 0, nw⟩) := by
  have ha : Calls Try.prog 149 #[.agg #[.int .i64 2, .int .i64 ar, .int .i64 at_, .int .u64 0, .int .u64 nw], .pointer (some ⟨gn, 0, none⟩), .pointer (some ⟨gp, 0, none⟩), .pointer (some ⟨gm, 0, none⟩), .pointer (some ⟨gx, 0, none⟩)] W (Asked W gm gx ⟨2, ar, at_, 0, nw⟩) := h.asks hk ⟨2, ar, at_, 0, nw⟩
  have HA := Lib.hid ha
  clear ha h
  go_enter Try.func77, Try.ntmps77
  go_wp2_with (go_at_call 149; (with_reducible refine HA.out.mono ?_); rintro e w1 ⟨rfl, h1⟩; have H1 := Lib.hid h1; clear h1)
  exact ⟨rfl, rfl, H1.out⟩
theorem write_tell (W : World) (base gn gp gm gx P k : Nat) (run : Value) (s : Sl) (fs : List (Int × Bool)) (ask ov : Bool) (cd ou : Int) (x : Int × Bool) (h : Env W base gn gp gm gx P k run s fs ask ov cd ou) (hx : fs[k]? = some x) (ar at_ nw : Int) :
    Calls Try.prog 77 #[.func (.func 149) #[] #[.pointer (some ⟨gn, 0, none⟩), .pointer (some ⟨gp, 0, none⟩), .pointer (some ⟨gm, 0, none⟩), .pointer (some ⟨gx, 0, none⟩)], .int .i64 ar, .int .i64 at_, .int .u64 nw] W fun e w' => e = .returned (.tuple #[]) ∧ Env w' base gn gp gm gx P (k + 1) run s fs ask ov cd ou ∧ Only (fun g => g = gn) W w' := by
  have ha : Calls Try.prog 149 #[.agg #[.int .i64 2, .int .i64 ar, .int .i64 at_, .int .u64 0, .int .u64 nw], .pointer (some ⟨gn, 0, none⟩), .pointer (some ⟨gp, 0, none⟩), .pointer (some ⟨gm, 0, none⟩), .pointer (some ⟨gx, 0, none⟩)] W _ := h.tells hx ⟨2, ar, at_, 0, nw⟩
  have HA := Lib.hid ha
  clear ha h
  go_enter Try.func77, Try.ntmps77
  go_wp2_with (go_at_call 149; (with_reducible refine HA.out.mono ?_); rintro e w1 ⟨rfl, h1⟩; have H1 := Lib.hid h1; clear h1)
  first | go_ret2 | go_ret | go_end0 | refine bodyPost_ret (results_none rfl _ _ _) rfl ?_
  exact ⟨rfl, H1.out⟩
theorem swap_ask (W : World) (base gn gp gm gx P k : Nat) (run : Value) (s : Sl) (fs : List (Int × Bool)) (ask ov : Bool) (cd ou : Int) (h : Env W base gn gp gm gx P k run s fs ask ov cd ou) (hk : k = fs.length) (ar at_ old nw : Int) :
    Calls Try.prog 81 #[.func (.func 149) #[] #[.pointer (some ⟨gn, 0, none⟩), .pointer (some ⟨gp, 0, none⟩), .pointer (some ⟨gm, 0, none⟩), .pointer (some ⟨gx, 0, none⟩)], .int .i64 ar, .int .i64 at_, .int .u64 old, .int .u64 nw] W (Asked W gm gx ⟨3, ar, at_, old, nw⟩) := by
  have ha : Calls Try.prog 149 #[.agg #[.int .i64 3, .int .i64 ar, .int .i64 at_, .int .u64 old, .int .u64 nw], .pointer (some ⟨gn, 0, none⟩), .pointer (some ⟨gp, 0, none⟩), .pointer (some ⟨gm, 0, none⟩), .pointer (some ⟨gx, 0, none⟩)] W (Asked W gm gx ⟨3, ar, at_, old, nw⟩) := h.asks hk ⟨3, ar, at_, old, nw⟩
  have HA := Lib.hid ha
  clear ha h
  go_enter Try.func81, Try.ntmps81
  go_wp2_with (go_at_call 149; (with_reducible refine HA.out.mono ?_); rintro e w1 ⟨rfl, h1⟩; have H1 := Lib.hid h1; clear h1)
  exact ⟨rfl, rfl, H1.out⟩
theorem swap_tell (W : World) (base gn gp gm gx P k : Nat) (run : Value) (s : Sl) (fs : List (Int × Bool)) (ask ov : Bool) (cd ou : Int) (x : Int × Bool) (h : Env W base gn gp gm gx P k run s fs ask ov cd ou) (hx : fs[k]? = some x) (ar at_ old nw : Int) :
    Calls Try.prog 81 #[.func (.func 149) #[] #[.pointer (some ⟨gn, 0, none⟩), .pointer (some ⟨gp, 0, none⟩), .pointer (some ⟨gm, 0, none⟩), .pointer (some ⟨gx, 0, none⟩)], .int .i64 ar, .int .i64 at_, .int .u64 old, .int .u64 nw] W fun e w' => e = .returned (.tuple #[.int .u64 x.1, .bool x.2]) ∧ Env w' base gn gp gm gx P (k + 1) run s fs ask ov cd ou ∧ Only (fun g => g = gn) W w' := by
  have ha : Calls Try.prog 149 #[.agg #[.int .i64 3, .int .i64 ar, .int .i64 at_, .int .u64 old, .int .u64 nw], .pointer (some ⟨gn, 0, none⟩), .pointer (some ⟨gp, 0, none⟩), .pointer (some ⟨gm, 0, none⟩), .pointer (some ⟨gx, 0, none⟩)] W _ := h.tells hx ⟨3, ar, at_, old, nw⟩
  have HA := Lib.hid ha
  clear ha h
  go_enter Try.func81, Try.ntmps81
  go_wp2_with (go_at_call 149; (with_reducible refine HA.out.mono ?_); rintro e w1 ⟨rfl, h1⟩; have H1 := Lib.hid h1; clear h1)
  first | go_ret2 | go_ret | go_end0 | refine bodyPost_ret (results_none rfl _ _ _) rfl ?_
  exact ⟨rfl, H1.out⟩
end Go.Proofs.Ytffppdcpiieapaa.Arenac

namespace Go.Proofs.Ytffppdcpiieapaa.Arenac
open Go.RowKit Go.Proofs.Ytffppdcpiieapaa.Memc Go.Proofs.Ytffppdcpiieapaa.Procc Go.Proofs.Ytffppdcpiieapaa.Machc Go.Proofs.Ytffppdcpiieapaa.Drivec Go.Proofs.Ytffppdcpiieapaa.Wordc
set_option linter.unusedVariables false
set_option maxRecDepth 100000

theorem asked_d {W W0 W' : World} {gn gm gx : Nat} {a : Acc} {e : Ending} (h : Asked W gm gx a e W') (ho : Only (fun g => g = gn) W0 W) : AskD W0 gn gm gx a e W' :=
  ⟨h.1, h.2.1, h.2.2.1, (ho.mono (fun g hg => .inl hg)).trans (h.2.2.2.mono (fun g hg => .inr hg))⟩
/-- how many findings were told, as memory has it -/
def kOf (gn : Nat) (w : World) : Nat := match w.cell? ⟨gn, 0, none⟩ with | some v => (intOf v).toNat | none => 0
theorem kof_env {W : World} {base gn gp gm gx P k : Nat} {run : Value} {s : Sl} {fs : List (Int × Bool)} {ask ov : Bool} {cd ou : Int} (h : Env W base gn gp gm gx P k run s fs ask ov cd ou) : kOf gn W = k := by
  unfold kOf
  rw [h.hn.cell 0]
  exact Int.toNat_natCast k
/-- a piece of a call: it asks for the next access, or it is over, and the call goes on behind some more findings -/
def PieceD (W : World) (base gn gp gm gx P : Nat) (run : Value) (s : Sl) (fs : List (Int × Bool)) (ask ov : Bool) (cd ou : Int) (Z : Mac) (f0 : FS) (R : FS → Ending → Prop) (e : Ending) (w' : World) : Prop :=
  (∃ a, Z.plan f0 fs = .ask a ∧ AskD W gn gm gx a e w') ∨ ∃ (k' : Nat) (f' : FS), Env w' base gn gp gm gx P k' run s fs ask ov cd ou ∧ Only (fun g => g = gn) W w' ∧ Z.after f0 (fs.take k') = f' ∧ R f' e
section
variable {kk : Int} {K T M : Nat}
theorem nx_at {f : FS} {a : Acc} (hp : ¬ f.pc = 0) (h : docAsk kk K M f = a) : (docZ kk K T M).nx f = .ask a := by rw [Mac.nx_ask hp, ← h]; rfl
theorem nx_end {f : FS} (hp : f.pc = 0) : (docZ kk K T M).nx f = .fin f.code f.out := Mac.nx_fin hp
theorem tell_at {f0 f f' : FS} {fs : List (Int × Bool)} {k : Nat} {x : Int × Bool} (h : fs[k]? = some x) (hf : (docZ kk K T M).after f0 (fs.take k) = f) (ht : docTell kk K T M f x.1 x.2 = f') : (docZ kk K T M).after f0 (fs.take (k + 1)) = f' := by
  rw [after_next h, hf]; exact ht
/-- a segment was taken -/
def took (f : FS) (rf : Int) : FS := if f.kd = 4 then { f with hold := rf, out := dec (lo f.w), pc := 0 } else { f with hold := rf, pc := f.back }
/-- a segment was given back -/
def gave (f : FS) : FS := if f.back = 87 then f.chained f.chain f.behind else { f with pc := f.back }
theorem tell90a {f : FS} {was : Int} (dn : Bool) (h : f.pc = 90) (hl : lo was = 0) : docTell kk K T M f was dn = f.ends kk 4 := (tell90 was dn h).trans (if_pos hl)
theorem tell90b {f : FS} {was : Int} (dn : Bool) (h : f.pc = 90) (hl : ¬ lo was = 0) : docTell kk K T M f was dn = { f with w := was, pc := 91 } := (tell90 was dn h).trans (if_neg hl)
theorem tell92t {f : FS} {dn : Bool} (was : Int) (h : f.pc = 92) (hd : dn = true) : docTell kk K T M f was dn = took f (pk (hi f.l) (lo f.w)) := (tell92 was dn h).trans (if_pos hd)
theorem tell92f {f : FS} {dn : Bool} (was : Int) (h : f.pc = 92) (hd : dn = false) : docTell kk K T M f was dn = { f with pc := 90 } := (tell92 was dn h).trans (if_neg (by rw [hd]; decide))
theorem tell97t {f : FS} {dn : Bool} (was : Int) (h : f.pc = 97) (hd : dn = true) : docTell kk K T M f was dn = gave f := (tell97 was dn h).trans (if_pos hd)
theorem tell97f {f : FS} {dn : Bool} (was : Int) (h : f.pc = 97) (hd : dn = false) : docTell kk K T M f was dn = { f with pc := 95 } := (tell97 was dn h).trans (if_neg (by rw [hd]; decide))
end
set_option maxHeartbeats 1000000 in
theorem lead_ask (W : World) (base gn gp gm gx P k : Nat) (run : Value) (s : Sl) (fs : List (Int × Bool)) (ask ov : Bool) (cd ou : Int) (f u : Int) (h : Env W base gn gp gm gx P k run s fs ask ov cd ou) (hk : k = fs.length) (hf : W64 f) (ht : W64 u) :
    Calls Try.prog 112 #[.func (.func 149) #[] #[.pointer (some ⟨gn, 0, none⟩), .pointer (some ⟨gp, 0, none⟩), .pointer (some ⟨gm, 0, none⟩), .pointer (some ⟨gx, 0, none⟩)], .int .u64 f, .int .u64 u] W (Asked W gm gx ⟨3, 2, 0, f, pk (up (hi f)) (lo u)⟩) := by
  have ha : Calls Try.prog 81 #[.func (.func 149) #[] #[.pointer (some ⟨gn, 0, none⟩), .pointer (some ⟨gp, 0, none⟩), .pointer (some ⟨gm, 0, none⟩), .pointer (some ⟨gx, 0, none⟩)], .int .i64 2, .int .i64 0, .int .u64 f, .int .u64 ((f / 4294967296 + 1) % 4294967296 * 4294967296 + u % 4294967296)] W _ := swap_ask W base gn gp gm gx P k run s fs ask ov cd ou h hk 2 0 f (pk (up (hi f)) (lo u))
  have HA := Lib.hid ha
  clear ha
  obtain ⟨f0, f1⟩ := hf
  obtain ⟨t0, t1⟩ := ht
  clear h
  go_enter Try.func112, Try.ntmps112
  go_wp2_with (first
    | (go_at_call 79; refine (high_c _ _ f0 f1).mono ?_; rintro e w' ⟨rfl, rfl⟩)
    | (go_at_call 66; refine (low_c _ _ t0 t1).mono ?_; rintro e w' ⟨rfl, rfl⟩)
    | (go_at_call 70; refine (pack_c _ _ _ (by omega) (by omega) (by omega) (by omega)).mono ?_; rintro e w' ⟨rfl, rfl⟩)
    | (go_at_call 81; (with_reducible refine HA.out.mono ?_); rintro e w1 ⟨rfl, h1⟩; have H1 := Lib.hid h1; clear h1))
  exact ⟨rfl, rfl, H1.out⟩
set_option maxHeartbeats 1000000 in
theorem lead_tell (W : World) (base gn gp gm gx P k : Nat) (run : Value) (s : Sl) (fs : List (Int × Bool)) (ask ov : Bool) (cd ou : Int) (f u : Int) (h : Env W base gn gp gm gx P k run s fs ask ov cd ou) (x : Int × Bool) (hx : fs[k]? = some x) (hf : W64 f) (ht : W64 u) :
    Calls Try.prog 112 #[.func (.func 149) #[] #[.pointer (some ⟨gn, 0, none⟩), .pointer (some ⟨gp, 0, none⟩), .pointer (some ⟨gm, 0, none⟩), .pointer (some ⟨gx, 0, none⟩)], .int .u64 f, .int .u64 u] W (fun e w' => e = .returned (.bool x.2) ∧ Env w' base gn gp gm gx P (k + 1) run s fs ask ov cd ou ∧ Only (fun g => g = gn) W w') := by
  have ha : Calls Try.prog 81 #[.func (.func 149) #[] #[.pointer (some ⟨gn, 0, none⟩), .pointer (some ⟨gp, 0, none⟩), .pointer (some ⟨gm, 0, none⟩), .pointer (some ⟨gx, 0, none⟩)], .int .i64 2, .int .i64 0, .int .u64 f, .int .u64 ((f / 4294967296 + 1) % 4294967296 * 4294967296 + u % 4294967296)] W _ := swap_tell W base gn gp gm gx P k run s fs ask ov cd ou x h hx 2 0 f (pk (up (hi f)) (lo u))
  have HA := Lib.hid ha
  clear ha
  obtain ⟨f0, f1⟩ := hf
  obtain ⟨t0, t1⟩ := ht
  clear h
  go_enter Try.func112, Try.ntmps112
  go_wp2_with (first
    | (go_at_call 79; refine (high_c _ _ f0 f1).mono ?_; rintro e w' ⟨rfl, rfl⟩)
    | (go_at_call 66; refine (low_c _ _ t0 t1).mono ?_; rintro e w' ⟨rfl, rfl⟩)
    | (go_at_call 70; refine (pack_c _ _ _ (by omega) (by omega) (by omega) (by omega)).mono ?_; rintro e w' ⟨rfl, rfl⟩)
    | (go_at_call 81; (with_reducible refine HA.out.mono ?_); rintro e w1 ⟨rfl, h1⟩; have H1 := Lib.hid h1; clear h1))
  go_ret
  exact ⟨rfl, H1.out⟩
end Go.Proofs.Ytffppdcpiieapaa.Arenac

namespace Go.Proofs.Ytffppdcpiieapaa.Arenac
open Go.RowKit Go.Proofs.Ytffppdcpiieapaa.Memc Go.Proofs.Ytffppdcpiieapaa.Procc Go.Proofs.Ytffppdcpiieapaa.Machc Go.Proofs.Ytffppdcpiieapaa.Drivec Go.Proofs.Ytffppdcpiieapaa.Wordc
set_option linter.unusedVariables false
set_option maxRecDepth 100000

set_option maxHeartbeats 4000000 in
theorem take_c (kk : Int) (K T M : Nat) (W : World) (base gn gp gm gx P : Nat) (run : Value) (s : Sl) (fs : List (Int × Bool)) (ask ov : Bool) (cd ou : Int) (k0 : Nat)  (f0 g : FS) (h : Env W base gn gp gm gx P k0 run s fs ask ov cd ou) (hw : ∀ x ∈ fs, W64 x.1) (hg : (docZ kk K T M).after f0 (fs.take k0) = g) (hp : g.pc = 90) :
    Calls Try.prog 65 #[.func (.func 149) #[] #[.pointer (some ⟨gn, 0, none⟩), .pointer (some ⟨gp, 0, none⟩), .pointer (some ⟨gm, 0, none⟩), .pointer (some ⟨gx, 0, none⟩)]] W (PieceD W base gn gp gm gx P run s fs ask ov cd ou (docZ kk K T M) f0 (fun f' e => (∃ a b : Int, e = .returned (.int .u64 0) ∧ f' = ({ g with w := a, l := b } : FS).ends kk 4) ∨ ∃ a b : Int, W64 a ∧ W64 b ∧ ¬ lo a = 0 ∧ e = .returned (.int .u64 (pk (hi b) (lo a))) ∧ f' = took ({ g with w := a, l := b, pc := 92 } : FS) (pk (hi b) (lo a)))) := by
  have HW := Lib.hid hw
  have HE := Lib.hid h
  have HF := Lib.hid hg
  have HP := Lib.hid hp
  clear hw h hg hp
  go_enter Try.func65, Try.ntmps65
  go_wp2_with fail
  refine wp_scope_jumps 0 (fun a' w' => ∃ (k : Nat) (f : FS), Env w' base gn gp gm gx P k run s fs ask ov cd ou ∧ Only (fun g => g = gn) W w' ∧ (docZ kk K T M).after f0 (fs.take k) = f ∧ (f.pc = 90 ∧ ∃ a b : Int, f = { g with w := a, l := b }) ∧ ∃ (u1 u3 u4 u5 u6 u7 u8 u9 u10 u11 u12 u13 u14 u15 u16 u17 u18 u19 u20 u21 u22 u23 u24 : Value), a' = { tmps := #[.func (.func 149) #[] #[.pointer (some ⟨gn, 0, none⟩), .pointer (some ⟨gp, 0, none⟩), .pointer (some ⟨gm, 0, none⟩), .pointer (some ⟨gx, 0, none⟩)], u1, .int .u64 0, u3, u4, u5, u6, u7, u8, u9, u10, u11, u12, u13, u14, u15, u16, u17, u18, u19, u20, u21, u22, u23, u24], defers := [] }) (fun _ w' => fs.length - kOf gn w') rfl ?_ ?_
  · go_wp2_with fail
    go_step3
    obtain ⟨k, hk0⟩ : ∃ k : Nat, k = k0 := ⟨_, rfl⟩
    have HE1 : Hid (Env W base gn gp gm gx P k run s fs ask ov cd ou) := Lib.hid (by rw [hk0]; exact HE.out)
    have HO0 : Hid (Only (fun g => g = gn) W W) := Lib.hid (Only.refl _ _)
    obtain ⟨f, hff⟩ : ∃ f, f = g := ⟨_, rfl⟩
    have HF1 : Hid ((docZ kk K T M).after f0 (fs.take k) = f) := Lib.hid (by rw [hk0, hff]; exact HF.out)
    have HP1 : Hid (f.pc = 90 ∧ ∃ a b : Int, f = { g with w := a, l := b }) := Lib.hid (by rw [hff]; exact ⟨HP.out, g.w, g.l, rfl⟩)
    clear hk0 hff
    by_cases hk : k = fs.length
    · go_wp2_with (go_at_call 76; (with_reducible refine (read_ask _ base gn gp gm gx P k run s fs ask ov cd ou HE1.out hk 2 0).mono ?_); rintro e w1 ⟨rfl, h1⟩; have H1 := Lib.hid h1; clear h1)
      exact ⟨rfl, .inl ⟨_, (plan_at hk HF1.out).trans (nx_at (by rw [HP1.out.1]; decide) (ask90 HP1.out.1)), asked_d ⟨rfl, H1.out⟩ HO0.out⟩⟩
    · have hlt : k < fs.length := by have := HE1.out.hk; omega
      obtain ⟨x, hx⟩ : ∃ x, fs[k]? = some x := ⟨_, List.getElem?_eq_getElem hlt⟩
      have HX0 := Lib.hid hx
      have HX : Hid (W64 x.1) := Lib.hid (HW.out x (List.mem_of_getElem? hx))
      obtain ⟨x0, x1⟩ := HX.out
      clear hx
      by_cases hlo : x.1 % 4294967296 = 0
      · have hz : (x.1 % 4294967296 == 0) = true := by rw [hlo]; rfl
        have HLO := Lib.hid hlo
        clear hlo
        go_wp2_with (first | (go_at_call 76; (with_reducible refine (read_tell _ base gn gp gm gx P k run s fs ask ov cd ou x HE1.out HX0.out 2 0).mono ?_); rintro e w1 ⟨rfl, he1, ho1⟩; go_must (have E1 := Lib.hid he1; have O1 := Lib.hid (HO0.out.trans ho1)); have HO1 := O1; clear he1 ho1) | (go_at_call 66; refine (low_c _ _ x0 x1).mono ?_; rintro e w' ⟨rfl, rfl⟩))
        simp only [Exit.jump]
        go_ret
        obtain ⟨hp1, a, b, hfe⟩ := HP1.out
        exact .inr ⟨k + 1, _, E1.out, HO1.out, tell_at HX0.out HF1.out (tell90a x.2 hp1 HLO.out), .inl ⟨a, b, rfl, by rw [hfe]⟩⟩
      · have hz : (x.1 % 4294967296 == 0) = false := beq_false_of_ne hlo
        have HLO := Lib.hid hlo
        clear hlo
        have HA2 : Hid ((docZ kk K T M).after f0 (fs.take (k + 1)) = { f with w := x.1, pc := 91 }) := Lib.hid (tell_at HX0.out HF1.out (tell90b x.2 HP1.out.1 HLO.out))
        by_cases hk2 : k + 1 = fs.length
        · go_wp2_with (first | (go_at_call 76; (with_reducible refine (read_tell _ base gn gp gm gx P k run s fs ask ov cd ou x HE1.out HX0.out 2 0).mono ?_); rintro e w1 ⟨rfl, he1, ho1⟩; go_must (have E1 := Lib.hid he1; have O1 := Lib.hid (HO0.out.trans ho1)); have HO1 := O1; clear he1 ho1) | (go_at_call 66; refine (low_c _ _ x0 x1).mono ?_; rintro e w' ⟨rfl, rfl⟩) | (go_at_call 67; refine (handle_c _ _ x0 x1).mono ?_; rintro e w' ⟨rfl, rfl⟩) | (go_at_call 76; (with_reducible refine (read_ask _ base gn gp gm gx P (k + 1) run s fs ask ov cd ou E1.out hk2 7 (x.1 % 4294967296 - 1)).mono ?_); rintro e w2 ⟨rfl, h1⟩; have H1 := Lib.hid h1; clear h1))
          exact ⟨rfl, .inl ⟨_, (plan_at hk2 HA2.out).trans (nx_at (show ¬ (91 : Int) = 0 by decide) (ask91 rfl)), asked_d ⟨rfl, H1.out⟩ HO1.out⟩⟩
        · have hlt2 : k + 1 < fs.length := by omega
          obtain ⟨y, hy⟩ : ∃ y, fs[k + 1]? = some y := ⟨_, List.getElem?_eq_getElem hlt2⟩
          have HY0 := Lib.hid hy
          have HY : Hid (W64 y.1) := Lib.hid (HW.out y (List.mem_of_getElem? hy))
          obtain ⟨y0, y1⟩ := HY.out
          clear hy
          have HA3 : Hid ((docZ kk K T M).after f0 (fs.take (k + 1 + 1)) = { f with w := x.1, l := y.1, pc := 92 }) := Lib.hid (tell_at HY0.out HA2.out (tell91 y.1 y.2 rfl))
          by_cases hk3 : k + 1 + 1 = fs.length
          · go_wp2_with (first | (go_at_call 76; (with_reducible refine (read_tell _ base gn gp gm gx P k run s fs ask ov cd ou x HE1.out HX0.out 2 0).mono ?_); rintro e w1 ⟨rfl, he1, ho1⟩; go_must (have E1 := Lib.hid he1; have O1 := Lib.hid (HO0.out.trans ho1)); have HO1 := O1; clear he1 ho1) | (go_at_call 66; refine (low_c _ _ x0 x1).mono ?_; rintro e w' ⟨rfl, rfl⟩) | (go_at_call 67; refine (handle_c _ _ x0 x1).mono ?_; rintro e w' ⟨rfl, rfl⟩) | (go_at_call 76; (with_reducible refine (read_tell _ base gn gp gm gx P (k + 1) run s fs ask ov cd ou y E1.out HY0.out 7 (x.1 % 4294967296 - 1)).mono ?_); rintro e w2 ⟨rfl, he2, ho2⟩; go_must (have E2 := Lib.hid he2; have O2 := Lib.hid (HO1.out.trans ho2)); have HO2 := O2; clear he2 ho2) | (go_at_call 112; (with_reducible refine (lead_ask _ base gn gp gm gx P (k + 1 + 1) run s fs ask ov cd ou x.1 y.1 E2.out hk3 HX.out HY.out).mono ?_); rintro e w3 ⟨rfl, h1⟩; have H1 := Lib.hid h1; clear h1))
            exact ⟨rfl, .inl ⟨_, (plan_at hk3 HA3.out).trans (nx_at (show ¬ (92 : Int) = 0 by decide) (ask92 rfl)), asked_d ⟨rfl, H1.out⟩ HO2.out⟩⟩
          · have hlt3 : k + 1 + 1 < fs.length := by omega
            obtain ⟨z, hz0⟩ : ∃ z, fs[k + 1 + 1]? = some z := ⟨_, List.getElem?_eq_getElem hlt3⟩
            have HZ0 := Lib.hid hz0
            clear hz0
            by_cases hd : z.2 = true
            · have HA4 : Hid ((docZ kk K T M).after f0 (fs.take (k + 1 + 1 + 1)) = took { f with w := x.1, l := y.1, pc := 92 } (pk (hi y.1) (lo x.1))) := Lib.hid (tell_at HZ0.out HA3.out (tell92t (f := { f with w := x.1, l := y.1, pc := 92 }) z.1 rfl hd))
              have hd2 : (!z.2) = false := by rw [hd]; rfl
              go_wp2_with (first | (go_at_call 76; (with_reducible refine (read_tell _ base gn gp gm gx P k run s fs ask ov cd ou x HE1.out HX0.out 2 0).mono ?_); rintro e w1 ⟨rfl, he1, ho1⟩; go_must (have E1 := Lib.hid he1; have O1 := Lib.hid (HO0.out.trans ho1)); have HO1 := O1; clear he1 ho1) | (go_at_call 66; refine (low_c _ _ x0 x1).mono ?_; rintro e w' ⟨rfl, rfl⟩) | (go_at_call 67; refine (handle_c _ _ x0 x1).mono ?_; rintro e w' ⟨rfl, rfl⟩) | (go_at_call 76; (with_reducible refine (read_tell _ base gn gp gm gx P (k + 1) run s fs ask ov cd ou y E1.out HY0.out 7 (x.1 % 4294967296 - 1)).mono ?_); rintro e w2 ⟨rfl, he2, ho2⟩; go_must (have E2 := Lib.hid he2; have O2 := Lib.hid (HO1.out.trans ho2)); have HO2 := O2; clear he2 ho2) | (go_at_call 112; (with_reducible refine (lead_tell _ base gn gp gm gx P (k + 1 + 1) run s fs ask ov cd ou x.1 y.1 E2.out z HZ0.out HX.out HY.out).mono ?_); rintro e w3 ⟨rfl, he3, ho3⟩; go_must (have E3 := Lib.hid he3; have O3 := Lib.hid (HO2.out.trans ho3)); have HO3 := O3; clear he3 ho3) | (go_at_call 79; refine (high_c _ _ y0 y1).mono ?_; rintro e w' ⟨rfl, rfl⟩) | (go_at_call 39; refine (ref_c _ _ _ (by omega) (by omega) (by omega) (by omega)).mono ?_; rintro e w' ⟨rfl, rfl⟩))
              simp only [Exit.jump]
              go_ret
              obtain ⟨hp1, a, b, hfe⟩ := HP1.out
              refine .inr ⟨_, _, E3.out, HO3.out, HA4.out, .inr ⟨x.1, y.1, HX.out, HY.out, HLO.out, ?_, by rw [hfe]⟩⟩
              have hr : y.1 / 4294967296 * 4294967296 + x.1 % 4294967296 = pk (hi y.1) (lo x.1) := rfl
              first | rfl | (rw [← hr]; done) | (rw [← hr]; rfl)
            · have hd1 : z.2 = false := by simpa using hd
              have HA4 : Hid ((docZ kk K T M).after f0 (fs.take (k + 1 + 1 + 1)) = { f with w := x.1, l := y.1, pc := 90 }) := Lib.hid (tell_at HZ0.out HA3.out (tell92f (f := { f with w := x.1, l := y.1, pc := 92 }) z.1 rfl hd1))
              have HSA : Hid (({ f with w := x.1, l := y.1, pc := 90 } : FS) = { g with w := x.1, l := y.1 }) := Lib.hid (by
                obtain ⟨hp1, a, b, hfe⟩ := HP1.out
                rw [hfe] at hp1 ⊢
                simp only at hp1
                rw [← hp1])
              have hd2 : (!z.2) = true := by rw [hd1]; rfl
              go_wp2_with (first | (go_at_call 76; (with_reducible refine (read_tell _ base gn gp gm gx P k run s fs ask ov cd ou x HE1.out HX0.out 2 0).mono ?_); rintro e w1 ⟨rfl, he1, ho1⟩; go_must (have E1 := Lib.hid he1; have O1 := Lib.hid (HO0.out.trans ho1)); have HO1 := O1; clear he1 ho1) | (go_at_call 66; refine (low_c _ _ x0 x1).mono ?_; rintro e w' ⟨rfl, rfl⟩) | (go_at_call 67; refine (handle_c _ _ x0 x1).mono ?_; rintro e w' ⟨rfl, rfl⟩) | (go_at_call 76; (with_reducible refine (read_tell _ base gn gp gm gx P (k + 1) run s fs ask ov cd ou y E1.out HY0.out 7 (x.1 % 4294967296 - 1)).mono ?_); rintro e w2 ⟨rfl, he2, ho2⟩; go_must (have E2 := Lib.hid he2; have O2 := Lib.hid (HO1.out.trans ho2)); have HO2 := O2; clear he2 ho2) | (go_at_call 112; (with_reducible refine (lead_tell _ base gn gp gm gx P (k + 1 + 1) run s fs ask ov cd ou x.1 y.1 E2.out z HZ0.out HX.out HY.out).mono ?_); rintro e w3 ⟨rfl, he3, ho3⟩; go_must (have E3 := Lib.hid he3; have O3 := Lib.hid (HO2.out.trans ho3)); have HO3 := O3; clear he3 ho3))
              go_step3
              exact ⟨rfl, ⟨k + 1 + 1 + 1, _, E3.out, HO3.out, HA4.out, ⟨rfl, _, _, HSA.out⟩, _, _, _, _, _, _, _, _, _, _, _, _, _, _, _, _, _, _, _, _, _, _, _, rfl⟩⟩
  · rintro a' w' ⟨k, f, h1, h2, h3, h4, u1, u3, u4, u5, u6, u7, u8, u9, u10, u11, u12, u13, u14, u15, u16, u17, u18, u19, u20, u21, u22, u23, u24, rfl⟩
    have HE1 := Lib.hid h1
    have HO0 := Lib.hid h2
    have HF1 := Lib.hid h3
    have HP1 := Lib.hid h4
    clear h1 h2 h3 h4
    have HKM := Lib.hid (kof_env HE1.out)
    by_cases hk : k = fs.length
    · go_wp2_with (go_at_call 76; (with_reducible refine (read_ask _ base gn gp gm gx P k run s fs ask ov cd ou HE1.out hk 2 0).mono ?_); rintro e w1 ⟨rfl, h1⟩; have H1 := Lib.hid h1; clear h1)
      exact ⟨rfl, .inl ⟨_, (plan_at hk HF1.out).trans (nx_at (by rw [HP1.out.1]; decide) (ask90 HP1.out.1)), asked_d ⟨rfl, H1.out⟩ HO0.out⟩⟩
    · have hlt : k < fs.length := by have := HE1.out.hk; omega
      obtain ⟨x, hx⟩ : ∃ x, fs[k]? = some x := ⟨_, List.getElem?_eq_getElem hlt⟩
      have HX0 := Lib.hid hx
      have HX : Hid (W64 x.1) := Lib.hid (HW.out x (List.mem_of_getElem? hx))
      obtain ⟨x0, x1⟩ := HX.out
      clear hx
      by_cases hlo : x.1 % 4294967296 = 0
      · have hz : (x.1 % 4294967296 == 0) = true := by rw [hlo]; rfl
        have HLO := Lib.hid hlo
        clear hlo
        go_wp2_with (first | (go_at_call 76; (with_reducible refine (read_tell _ base gn gp gm gx P k run s fs ask ov cd ou x HE1.out HX0.out 2 0).mono ?_); rintro e w1 ⟨rfl, he1, ho1⟩; go_must (have E1 := Lib.hid he1; have O1 := Lib.hid (HO0.out.trans ho1)); have HO1 := O1; clear he1 ho1) | (go_at_call 66; refine (low_c _ _ x0 x1).mono ?_; rintro e w' ⟨rfl, rfl⟩))
        simp only [Exit.jump]
        go_ret
        obtain ⟨hp1, a, b, hfe⟩ := HP1.out
        exact .inr ⟨k + 1, _, E1.out, HO1.out, tell_at HX0.out HF1.out (tell90a x.2 hp1 HLO.out), .inl ⟨a, b, rfl, by rw [hfe]⟩⟩
      · have hz : (x.1 % 4294967296 == 0) = false := beq_false_of_ne hlo
        have HLO := Lib.hid hlo
        clear hlo
        have HA2 : Hid ((docZ kk K T M).after f0 (fs.take (k + 1)) = { f with w := x.1, pc := 91 }) := Lib.hid (tell_at HX0.out HF1.out (tell90b x.2 HP1.out.1 HLO.out))
        by_cases hk2 : k + 1 = fs.length
        · go_wp2_with (first | (go_at_call 76; (with_reducible refine (read_tell _ base gn gp gm gx P k run s fs ask ov cd ou x HE1.out HX0.out 2 0).mono ?_); rintro e w1 ⟨rfl, he1, ho1⟩; go_must (have E1 := Lib.hid he1; have O1 := Lib.hid (HO0.out.trans ho1)); have HO1 := O1; clear he1 ho1) | (go_at_call 66; refine (low_c _ _ x0 x1).mono ?_; rintro e w' ⟨rfl, rfl⟩) | (go_at_call 67; refine (handle_c _ _ x0 x1).mono ?_; rintro e w' ⟨rfl, rfl⟩) | (go_at_call 76; (with_reducible refine (read_ask _ base gn gp gm gx P (k + 1) run s fs ask ov cd ou E1.out hk2 7 (x.1 % 4294967296 - 1)).mono ?_); rintro e w2 ⟨rfl, h1⟩; have H1 := Lib.hid h1; clear h1))
          exact ⟨rfl, .inl ⟨_, (plan_at hk2 HA2.out).trans (nx_at (show ¬ (91 : Int) = 0 by decide) (ask91 rfl)), asked_d ⟨rfl, H1.out⟩ HO1.out⟩⟩
        · have hlt2 : k + 1 < fs.length := by omega
          obtain ⟨y, hy⟩ : ∃ y, fs[k + 1]? = some y := ⟨_, List.getElem?_eq_getElem hlt2⟩
          have HY0 := Lib.hid hy
          have HY : Hid (W64 y.1) := Lib.hid (HW.out y (List.mem_of_getElem? hy))
          obtain ⟨y0, y1⟩ := HY.out
          clear hy
          have HA3 : Hid ((docZ kk K T M).after f0 (fs.take (k + 1 + 1)) = { f with w := x.1, l := y.1, pc := 92 }) := Lib.hid (tell_at HY0.out HA2.out (tell91 y.1 y.2 rfl))
          by_cases hk3 : k + 1 + 1 = fs.length
          · go_wp2_with (first | (go_at_call 76; (with_reducible refine (read_tell _ base gn gp gm gx P k run s fs ask ov cd ou x HE1.out HX0.out 2 0).mono ?_); rintro e w1 ⟨rfl, he1, ho1⟩; go_must (have E1 := Lib.hid he1; have O1 := Lib.hid (HO0.out.trans ho1)); have HO1 := O1; clear he1 ho1) | (go_at_call 66; refine (low_c _ _ x0 x1).mono ?_; rintro e w' ⟨rfl, rfl⟩) | (go_at_call 67; refine (handle_c _ _ x0 x1).mono ?_; rintro e w' ⟨rfl, rfl⟩) | (go_at_call 76; (with_reducible refine (read_tell _ base gn gp gm gx P (k + 1) run s fs ask ov cd ou y E1.out HY0.out 7 (x.1 % 4294967296 - 1)).mono ?_); rintro e w2 ⟨rfl, he2, ho2⟩; go_must (have E2 := Lib.hid he2; have O2 := Lib.hid (HO1.out.trans ho2)); have HO2 := O2; clear he2 ho2) | (go_at_call 112; (with_reducible refine (lead_ask _ base gn gp gm gx P (k + 1 + 1) run s fs ask ov cd ou x.1 y.1 E2.out hk3 HX.out HY.out).mono ?_); rintro e w3 ⟨rfl, h1⟩; have H1 := Lib.hid h1; clear h1))
            exact ⟨rfl, .inl ⟨_, (plan_at hk3 HA3.out).trans (nx_at (show ¬ (92 : Int) = 0 by decide) (ask92 rfl)), asked_d ⟨rfl, H1.out⟩ HO2.out⟩⟩
          · have hlt3 : k + 1 + 1 < fs.length := by omega
            obtain ⟨z, hz0⟩ : ∃ z, fs[k + 1 + 1]? = some z := ⟨_, List.getElem?_eq_getElem hlt3⟩
            have HZ0 := Lib.hid hz0
            clear hz0
            by_cases hd : z.2 = true
            · have HA4 : Hid ((docZ kk K T M).after f0 (fs.take (k + 1 + 1 + 1)) = took { f with w := x.1, l := y.1, pc := 92 } (pk (hi y.1) (lo x.1))) := Lib.hid (tell_at HZ0.out HA3.out (tell92t (f := { f with w := x.1, l := y.1, pc := 92 }) z.1 rfl hd))
              have hd2 : (!z.2) = false := by rw [hd]; rfl
              go_wp2_with (first | (go_at_call 76; (with_reducible refine (read_tell _ base gn gp gm gx P k run s fs ask ov cd ou x HE1.out HX0.out 2 0).mono ?_); rintro e w1 ⟨rfl, he1, ho1⟩; go_must (have E1 := Lib.hid he1; have O1 := Lib.hid (HO0.out.trans ho1)); have HO1 := O1; clear he1 ho1) | (go_at_call 66; refine (low_c _ _ x0 x1).mono ?_; rintro e w' ⟨rfl, rfl⟩) | (go_at_call 67; refine (handle_c _ _ x0 x1).mono ?_; rintro e w' ⟨rfl, rfl⟩) | (go_at_call 76; (with_reducible refine (read_tell _ base gn gp gm gx P (k + 1) run s fs ask ov cd ou y E1.out HY0.out 7 (x.1 % 4294967296 - 1)).mono ?_); rintro e w2 ⟨rfl, he2, ho2⟩; go_must (have E2 := Lib.hid he2; have O2 := Lib.hid (HO1.out.trans ho2)); have HO2 := O2; clear he2 ho2) | (go_at_call 112; (with_reducible refine (lead_tell _ base gn gp gm gx P (k + 1 + 1) run s fs ask ov cd ou x.1 y.1 E2.out z HZ0.out HX.out HY.out).mono ?_); rintro e w3 ⟨rfl, he3, ho3⟩; go_must (have E3 := Lib.hid he3; have O3 := Lib.hid (HO2.out.trans ho3)); have HO3 := O3; clear he3 ho3) | (go_at_call 79; refine (high_c _ _ y0 y1).mono ?_; rintro e w' ⟨rfl, rfl⟩) | (go_at_call 39; refine (ref_c _ _ _ (by omega) (by omega) (by omega) (by omega)).mono ?_; rintro e w' ⟨rfl, rfl⟩))
              simp only [Exit.jump]
              go_ret
              obtain ⟨hp1, a, b, hfe⟩ := HP1.out
              refine .inr ⟨_, _, E3.out, HO3.out, HA4.out, .inr ⟨x.1, y.1, HX.out, HY.out, HLO.out, ?_, by rw [hfe]⟩⟩
              have hr : y.1 / 4294967296 * 4294967296 + x.1 % 4294967296 = pk (hi y.1) (lo x.1) := rfl
              first | rfl | (rw [← hr]; done) | (rw [← hr]; rfl)
            · have hd1 : z.2 = false := by simpa using hd
              have HA4 : Hid ((docZ kk K T M).after f0 (fs.take (k + 1 + 1 + 1)) = { f with w := x.1, l := y.1, pc := 90 }) := Lib.hid (tell_at HZ0.out HA3.out (tell92f (f := { f with w := x.1, l := y.1, pc := 92 }) z.1 rfl hd1))
              have HSA : Hid (({ f with w := x.1, l := y.1, pc := 90 } : FS) = { g with w := x.1, l := y.1 }) := Lib.hid (by
                obtain ⟨hp1, a, b, hfe⟩ := HP1.out
                rw [hfe] at hp1 ⊢
                simp only at hp1
                rw [← hp1])
              have hd2 : (!z.2) = true := by rw [hd1]; rfl
              go_wp2_with (first | (go_at_call 76; (with_reducible refine (read_tell _ base gn gp gm gx P k run s fs ask ov cd ou x HE1.out HX0.out 2 0).mono ?_); rintro e w1 ⟨rfl, he1, ho1⟩; go_must (have E1 := Lib.hid he1; have O1 := Lib.hid (HO0.out.trans ho1)); have HO1 := O1; clear he1 ho1) | (go_at_call 66; refine (low_c _ _ x0 x1).mono ?_; rintro e w' ⟨rfl, rfl⟩) | (go_at_call 67; refine (handle_c _ _ x0 x1).mono ?_; rintro e w' ⟨rfl, rfl⟩) | (go_at_call 76; (with_reducible refine (read_tell _ base gn gp gm gx P (k + 1) run s fs ask ov cd ou y E1.out HY0.out 7 (x.1 % 4294967296 - 1)).mono ?_); rintro e w2 ⟨rfl, he2, ho2⟩; go_must (have E2 := Lib.hid he2; have O2 := Lib.hid (HO1.out.trans ho2)); have HO2 := O2; clear he2 ho2) | (go_at_call 112; (with_reducible refine (lead_tell _ base gn gp gm gx P (k + 1 + 1) run s fs ask ov cd ou x.1 y.1 E2.out z HZ0.out HX.out HY.out).mono ?_); rintro e w3 ⟨rfl, he3, ho3⟩; go_must (have E3 := Lib.hid he3; have O3 := Lib.hid (HO2.out.trans ho3)); have HO3 := O3; clear he3 ho3))
              go_step3
              refine ⟨rfl, ⟨k + 1 + 1 + 1, _, E3.out, HO3.out, HA4.out, ⟨rfl, _, _, HSA.out⟩, _, _, _, _, _, _, _, _, _, _, _, _, _, _, _, _, _, _, _, _, _, _, _, rfl⟩, ?_⟩
              have hk3 := kof_env E3.out
              have hk1 := HKM.out
              show fs.length - kOf gn _ < fs.length - kOf gn _
              omega
end Go.Proofs.Ytffppdcpiieapaa.Arenac
