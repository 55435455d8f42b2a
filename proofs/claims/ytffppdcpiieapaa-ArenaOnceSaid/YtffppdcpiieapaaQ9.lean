/- The document's machines of the layers 4 to 8, as mathematics: what is asked for, and what it comes to, access by access. · What a call asks its doer, and what it is told: through the methods Read, Write, Swap. · Ahead of Take and Give: how a call goes on, and what a swap of the free list's head comes to. · A call that is on, and its accesses: by contracts that tell both ways, that it pauses or goes on. · Hold, over a call that is on. -/
import Derived.WalkMore
import Derived.ScopeJumps
import Derived.Test.YtffppdcpiieapaaQ3
import Derived.Test.YtffppdcpiieapaaQ8
namespace Go.Proofs.Ytffppdcpiieapaa.Arenac
open Go.RowKit Go.Proofs.Ytffppdcpiieapaa.Memc Go.Proofs.Ytffppdcpiieapaa.Procc Go.Proofs.Ytffppdcpiieapaa.Machc Go.Proofs.Ytffppdcpiieapaa.Drivec Go.Proofs.Ytffppdcpiieapaa.Wordc
set_option linter.unusedVariables false
set_option maxRecDepth 100000

def lo (x : Int) : Int := x % 4294967296
def hi (x : Int) : Int := x / 4294967296
def pk (h l : Int) : Int := h * 4294967296 + l
def up (h : Int) : Int := (h + 1) % 4294967296
def dec (h : Int) : Int := (h - 1) % 4294967296
def w64 (x : Int) : Int := x % 18446744073709551616
def hnd (w : Int) : Int := lo w - 1
def plc (K : Nat) (h d p : Int) : Int := h * K + (d + p) % K
def slotW (r v : Int) : Int := pk r (up v)
def atD (k : Int) (K M : Nat) (f : FS) : Int := if k = 2 then plc K (f.s % M) f.d f.pos else plc K (hnd f.s) f.d f.pos
def isVal (w r : Int) : Prop := hi w = r ∧ ¬ lo w = 0
instance (w r : Int) : Decidable (isVal w r) := by unfold isVal; infer_instance
/-- a word -/
def W64 (x : Int) : Prop := 0 ≤ x ∧ x ≤ 18446744073709551615
end Go.Proofs.Ytffppdcpiieapaa.Arenac
namespace Go.Proofs.Ytffppdcpiieapaa.Machc
open Go.RowKit Go.Proofs.Ytffppdcpiieapaa.Memc Go.Proofs.Ytffppdcpiieapaa.Arenac
/-- a call comes out -/
def FS.ends (f : FS) (k code : Int) : FS := { f with code := code, pc := if ¬ f.hold = 0 ∧ ¬ f.kd = 4 then 19 else if k = 2 ∨ f.kd = 4 then 0 else 4 }
/-- to the next slot -/
def FS.onw (f : FS) (K : Nat) (again behind : Int) : FS := if f.pos + 1 = K then { f with pos := 0, pc := behind } else { f with pos := f.pos + 1, pc := again }
def FS.bare (f : FS) (r : Int) : Bool := f.seen.any fun x => x == pk r 0
def FS.looks (f : FS) (k : Int) (K M : Nat) (was again second behind : Int) : FS :=
  let g : FS := { f with seen := f.seen ++ [was] }
  if f.pos + 1 = K ∧ g.bare (lifeM k M g) = true then g.onw K again second else g.onw K again behind
def FS.need (f : FS) (wth held : Int) : FS := { f with back := wth, pc := if ¬ f.hold = 0 then held else 90 }
def FS.gives (f : FS) (ref back : Int) : FS := { f with give := ref, back := back, pc := 95 }
def FS.chained (f : FS) (chain behind : Int) : FS := { f with chain := chain, behind := behind, pc := if chain = 0 then behind else 86 }
def FS.begins (f : FS) (s : Int) : FS := { f with s := s, pos := 0, seen := [], second := false }
def FS.taken (f : FS) (k : Int) : FS := ({ f with out := dec (lo f.w) } : FS).ends k 0
def FS.forty (f : FS) : FS := if f.pc = 43 then f.need 44 45 else f
end Go.Proofs.Ytffppdcpiieapaa.Machc
namespace Go.Proofs.Ytffppdcpiieapaa.Arenac
open Go.RowKit Go.Proofs.Ytffppdcpiieapaa.Memc Go.Proofs.Ytffppdcpiieapaa.Procc Go.Proofs.Ytffppdcpiieapaa.Machc Go.Proofs.Ytffppdcpiieapaa.Drivec Go.Proofs.Ytffppdcpiieapaa.Wordc
set_option linter.unusedVariables false
set_option maxRecDepth 100000

/-- what is asked for -/
def docAsk (k : Int) (K M : Nat) (f : FS) : Acc :=
  if f.pc = 99 then f.raw
  else if f.pc = 1 ∨ f.pc = 3 ∨ f.pc = 30 ∨ f.pc = 33 ∨ f.pc = 80 then ⟨1, 1, 0, 0, 0⟩
  else if f.pc = 2 then ⟨2, 4, f.t, 0, w64 (f.g + 1)⟩
  else if f.pc = 4 then ⟨2, 4, f.t, 0, 0⟩
  else if f.pc = 10 ∨ f.pc = 25 ∨ f.pc = 60 ∨ f.pc = 74 then ⟨1, 6, 0, 0, 0⟩
  else if f.pc = 20 ∨ f.pc = 40 ∨ f.pc = 50 ∨ f.pc = 63 ∨ f.pc = 70 then ⟨1, 5, 0, 0, 0⟩
  else if f.pc = 11 ∨ f.pc = 21 ∨ f.pc = 23 ∨ f.pc = 41 ∨ f.pc = 51 ∨ f.pc = 53 ∨ f.pc = 61 ∨ f.pc = 71 ∨ f.pc = 73 then ⟨1, 9, atD k K M f, 0, 0⟩
  else if f.pc = 12 ∨ f.pc = 42 ∨ f.pc = 62 then ⟨3, 9, atD k K M f, pk (lifeM k M f) 0, slotW (lifeM k M f) f.vl⟩
  else if f.pc = 22 ∨ f.pc = 52 ∨ f.pc = 54 ∨ f.pc = 72 then ⟨3, 9, atD k K M f, f.w, pk (up (lifeM k M f)) 0⟩
  else if f.pc = 55 then ⟨3, 9, atD k K M f, pk (lifeM k M f) 0, pk (up (lifeM k M f)) 0⟩
  else if f.pc = 13 ∨ f.pc = 24 ∨ f.pc = 56 then ⟨1, 8, hnd f.s, 0, 0⟩
  else if f.pc = 14 then ⟨3, 6, 0, f.s, f.w⟩
  else if f.pc = 15 then ⟨2, 8, hnd f.hold, 0, 0⟩
  else if f.pc = 16 ∨ f.pc = 44 then ⟨2, 9, plc K (hnd f.hold) f.d 0, 0, slotW (hi f.hold) f.vl⟩
  else if f.pc = 17 then ⟨3, 8, hnd f.s, 0, f.hold⟩
  else if f.pc = 18 then ⟨3, 6, 0, f.s, f.hold⟩
  else if f.pc = 19 then ⟨2, 9, plc K (hnd f.hold) f.d 0, 0, pk (hi f.hold) 0⟩
  else if f.pc = 26 then ⟨3, 6, 0, f.s, f.l⟩
  else if f.pc = 27 ∨ f.pc = 57 then ⟨3, 5, 0, f.s, f.l⟩
  else if f.pc = 31 then ⟨1, 4, f.pos, 0, 0⟩
  else if f.pc = 32 then ⟨3, 1, 0, f.g, w64 (f.g + 1)⟩
  else if f.pc = 34 then ⟨1, 3, w64 (f.g + 1) % 3, 0, 0⟩
  else if f.pc = 35 then ⟨3, 3, w64 (f.g + 1) % 3, f.w, pk (hi f.w) 0⟩
  else if f.pc = 45 then ⟨2, 8, hnd f.hold, 0, f.s⟩
  else if f.pc = 46 then ⟨3, 5, 0, f.s, f.hold⟩
  else if f.pc = 64 then ⟨3, 6, 0, f.s, w64 (f.s + 1)⟩
  else if f.pc = 75 then ⟨3, 5, 0, f.s, w64 (f.s + 1)⟩
  else if f.pc = 81 then ⟨1, 3, f.g % 3, 0, 0⟩
  else if f.pc = 82 then ⟨3, 3, f.g % 3, f.w, pk (hi f.w) 0⟩
  else if f.pc = 83 then ⟨2, 7, hnd f.s, 0, pk (up (hi f.s)) (lo f.w)⟩
  else if f.pc = 84 then ⟨3, 3, f.g % 3, f.w, pk (lo f.g) (lo f.s)⟩
  else if f.pc = 86 then ⟨1, 7, f.chain - 1, 0, 0⟩
  else if f.pc = 90 ∨ f.pc = 95 then ⟨1, 2, 0, 0, 0⟩
  else if f.pc = 91 then ⟨1, 7, hnd f.w, 0, 0⟩
  else if f.pc = 92 then ⟨3, 2, 0, f.w, pk (up (hi f.w)) (lo f.l)⟩
  else if f.pc = 96 then ⟨2, 7, hnd f.give, 0, pk (hi f.give) (lo f.w)⟩
  else if f.pc = 97 then ⟨3, 2, 0, f.w, pk (up (hi f.w)) (lo f.give)⟩
  else ⟨0, 0, 0, 0, 0⟩
/-- what it comes to -/
def docTell (k : Int) (K T M : Nat) (f : FS) (was : Int) (dn : Bool) : FS :=
  if f.pc = 99 then ({ f with out := num dn, pc := 0 })
  else if f.pc = 1 then ({ f with g := was, pc := 2 })
  else if f.pc = 2 then ({ f with pc := 3 })
  else if f.pc = 3 then (if ¬ was = f.g then { f with g := was, pc := 2 } else if f.kd = 6 then { f with pc := 0 } else { f with pc := if k = 1 then (if f.kd = 1 then 10 else 20) else (if f.kd = 1 then 40 else 50) })
  else if f.pc = 4 then ({ f with pc := 0 })
  else if f.pc = 10 then ({ f.begins was with pc := 11 })
  else if f.pc = 11 then (if was = pk (lifeM k M f) 0 then { f with pc := 12 } else f.onw K 11 13)
  else if f.pc = 12 then (if dn then f.ends k 0 else f.onw K 11 13)
  else if f.pc = 13 then (if ¬ was = 0 then { f with w := was, pc := 14 } else f.need 15 17)
  else if f.pc = 14 then ({ f with pc := 10 })
  else if f.pc = 15 then ({ f with pc := 16 })
  else if f.pc = 16 then ({ f with pc := 17 })
  else if f.pc = 17 then ({ f with pc := if dn then 18 else 10 })
  else if f.pc = 18 then (({ f with hold := 0 } : FS).ends k 0)
  else if f.pc = 19 then (f.gives f.hold 4)
  else if f.pc = 20 then ({ f.begins was with pc := 21 })
  else if f.pc = 21 then (if isVal was (lifeM k M f) then { f with w := was, pc := 22 } else f.looks k K M was 21 23 24)
  else if f.pc = 22 then (if dn then f.taken k else if f.second then { f with pc := 20 } else f.looks k K M was 21 23 24)
  else if f.pc = 23 then (if isVal was (lifeM k M f) then { f with second := true, w := was, pc := 22 } else if ¬ was = f.seen.getD f.pos.toNat 0 then { f with pc := 20 } else if f.pos + 1 = K then f.ends k 2 else f.onw K 23 23)
  else if f.pc = 24 then (if was = 0 then f.ends k 2 else { f with l := was, pc := 25 })
  else if f.pc = 25 then ({ f with pc := if was = f.s then 26 else 27 })
  else if f.pc = 26 then ({ f with pc := 27 })
  else if f.pc = 27 then ({ f with behind := 20, back := 20, pc := if dn then 80 else 20 })
  else if f.pc = 30 then ({ f with g := was, pos := 0, pc := 31 })
  else if f.pc = 31 then (if ¬ was = 0 ∧ ¬ was = w64 (f.g + 1) then { f with pc := 33 } else { f with pos := f.pos + 1, pc := if f.pos + 1 = T then 32 else 31 })
  else if f.pc = 32 then ({ f with pc := 33 })
  else if f.pc = 33 then ({ f with g := was, pc := 34 })
  else if f.pc = 34 then ({ f with w := was, pc := if lo was = 0 ∨ hi was + 2 > f.g then 0 else 35 })
  else if f.pc = 35 then (if dn then f.chained (lo f.w) 0 else { f with pc := 0 })
  else if f.pc = 40 then (if lo was = 0 then (f.begins was).need 44 45 else { f.begins was with pc := 41 })
  else if f.pc = 41 then (if was = pk (lifeM k M f) 0 then { f with pc := 42 } else (f.onw K 41 43).forty)
  else if f.pc = 42 then (if dn then f.ends k 0 else (f.onw K 41 43).forty)
  else if f.pc = 44 then ({ f with pc := 45 })
  else if f.pc = 45 then ({ f with pc := 46 })
  else if f.pc = 46 then (if dn then ({ f with hold := 0 } : FS).ends k 0 else { f with pc := 40 })
  else if f.pc = 50 then (if lo was = 0 then f.ends k 2 else { f.begins was with pc := 51 })
  else if f.pc = 51 then (if isVal was (lifeM k M f) then { f with w := was, pc := 52 } else f.onw K 51 53)
  else if f.pc = 52 then (if dn then f.taken k else f.onw K 51 53)
  else if f.pc = 53 then (if isVal was (lifeM k M f) then { f with w := was, pc := 54 } else if was = pk (lifeM k M f) 0 then { f with pc := 55 } else f.onw K 53 56)
  else if f.pc = 54 then (if dn then f.taken k else f.onw K 53 56)
  else if f.pc = 55 then (if dn then f.onw K 53 56 else { f with pc := 53 })
  else if f.pc = 56 then ({ f with l := was, pc := 57 })
  else if f.pc = 57 then ({ f with pc := if dn then 80 else 50 })
  else if f.pc = 60 then ({ f.begins was with pc := 61 })
  else if f.pc = 61 then (if was = pk (lifeM k M f) 0 then { f with pc := 62 } else f.onw K 61 63)
  else if f.pc = 62 then (if dn then f.ends k 0 else f.onw K 61 63)
  else if f.pc = 63 then (if f.s ≥ w64 (w64 (was + M) - 1) then f.ends k 3 else { f with pc := 64 })
  else if f.pc = 64 then ({ f with pc := 60 })
  else if f.pc = 70 then ({ f.begins was with pc := 71 })
  else if f.pc = 71 then (if isVal was (lifeM k M f) then { f with w := was, pc := 72 } else f.looks k K M was 71 73 74)
  else if f.pc = 72 then (if dn then f.taken k else if f.second then { f with pc := 70 } else f.looks k K M was 71 73 74)
  else if f.pc = 73 then (if isVal was (lifeM k M f) then { f with second := true, w := was, pc := 72 } else if ¬ was = f.seen.getD f.pos.toNat 0 then { f with pc := 70 } else if f.pos + 1 = K then f.ends k 2 else f.onw K 73 73)
  else if f.pc = 74 then (if was = f.s then f.ends k 2 else { f with pc := 75 })
  else if f.pc = 75 then ({ f with pc := 70 })
  else if f.pc = 80 then ({ f with g := was, pc := 81 })
  else if f.pc = 81 then ({ f with w := was, pc := if ¬ lo was = 0 ∧ ¬ hi was = lo f.g then 82 else 83 })
  else if f.pc = 82 then (if dn then f.chained (lo f.w) 81 else { f with pc := 81 })
  else if f.pc = 83 then ({ f with pc := 84 })
  else if f.pc = 84 then (if dn then { f with pc := if f.kd = 8 then 0 else if k = 1 then 20 else 50 } else { f with pc := 81 })
  else if f.pc = 86 then (({ f with chain := lo was } : FS).gives (pk (hi was) f.chain) 87)
  else if f.pc = 90 then (if lo was = 0 then f.ends k 4 else { f with w := was, pc := 91 })
  else if f.pc = 91 then ({ f with l := was, pc := 92 })
  else if f.pc = 92 then (if dn then (if f.kd = 4 then { f with hold := pk (hi f.l) (lo f.w), out := dec (lo f.w), pc := 0 } else { f with hold := pk (hi f.l) (lo f.w), pc := f.back }) else { f with pc := 90 })
  else if f.pc = 95 then ({ f with w := was, pc := 96 })
  else if f.pc = 96 then ({ f with pc := 97 })
  else if f.pc = 97 then (if dn then (if f.back = 87 then f.chained f.chain f.behind else { f with pc := f.back }) else { f with pc := 95 })
  else f.forty
def docBg (k : Int) (K M : Nat) (t kd vl d : Int) : FS :=
  let f : FS := { FS.none with kd := kd, vl := vl, t := t, d := d % K, pc := 1 }
  if kd = 3 then { f with pc := 30 }
  else if kd = 4 then { f with pc := 90 }
  else if kd = 5 then f.gives (vl % M + 1) 0
  else if kd = 7 then { f with pc := 4 }
  else if kd = 8 then { f with s := vl % M + 1, pc := 80 }
  else if k = 2 ∧ kd = 1 then { f with pc := 60 }
  else if k = 2 ∧ kd = 2 then { f with pc := 70 }
  else f
def docZ (k : Int) (K T M : Nat) : Mac := ⟨docBg k K M, docAsk k K M, docTell k K T M⟩
section
variable {k : Int} {K T M : Nat} {f : FS}
theorem ask1 (h : f.pc = 1) : docAsk k K M f = ⟨1, 1, 0, 0, 0⟩ := by simp [docAsk, h]
theorem ask3 (h : f.pc = 3) : docAsk k K M f = ⟨1, 1, 0, 0, 0⟩ := by simp [docAsk, h]
theorem ask30 (h : f.pc = 30) : docAsk k K M f = ⟨1, 1, 0, 0, 0⟩ := by simp [docAsk, h]
theorem ask33 (h : f.pc = 33) : docAsk k K M f = ⟨1, 1, 0, 0, 0⟩ := by simp [docAsk, h]
theorem ask80 (h : f.pc = 80) : docAsk k K M f = ⟨1, 1, 0, 0, 0⟩ := by simp [docAsk, h]
theorem ask2 (h : f.pc = 2) : docAsk k K M f = ⟨2, 4, f.t, 0, w64 (f.g + 1)⟩ := by simp [docAsk, h]
theorem ask4 (h : f.pc = 4) : docAsk k K M f = ⟨2, 4, f.t, 0, 0⟩ := by simp [docAsk, h]
theorem ask31 (h : f.pc = 31) : docAsk k K M f = ⟨1, 4, f.pos, 0, 0⟩ := by simp [docAsk, h]
theorem ask32 (h : f.pc = 32) : docAsk k K M f = ⟨3, 1, 0, f.g, w64 (f.g + 1)⟩ := by simp [docAsk, h]
theorem ask34 (h : f.pc = 34) : docAsk k K M f = ⟨1, 3, w64 (f.g + 1) % 3, 0, 0⟩ := by simp [docAsk, h]
theorem ask35 (h : f.pc = 35) : docAsk k K M f = ⟨3, 3, w64 (f.g + 1) % 3, f.w, pk (hi f.w) 0⟩ := by simp [docAsk, h]
theorem ask81 (h : f.pc = 81) : docAsk k K M f = ⟨1, 3, f.g % 3, 0, 0⟩ := by simp [docAsk, h]
theorem ask82 (h : f.pc = 82) : docAsk k K M f = ⟨3, 3, f.g % 3, f.w, pk (hi f.w) 0⟩ := by simp [docAsk, h]
theorem ask83 (h : f.pc = 83) : docAsk k K M f = ⟨2, 7, hnd f.s, 0, pk (up (hi f.s)) (lo f.w)⟩ := by simp [docAsk, h]
theorem ask84 (h : f.pc = 84) : docAsk k K M f = ⟨3, 3, f.g % 3, f.w, pk (lo f.g) (lo f.s)⟩ := by simp [docAsk, h]
theorem ask86 (h : f.pc = 86) : docAsk k K M f = ⟨1, 7, f.chain - 1, 0, 0⟩ := by simp [docAsk, h]
theorem ask90 (h : f.pc = 90) : docAsk k K M f = ⟨1, 2, 0, 0, 0⟩ := by simp [docAsk, h]
theorem ask95 (h : f.pc = 95) : docAsk k K M f = ⟨1, 2, 0, 0, 0⟩ := by simp [docAsk, h]
theorem ask91 (h : f.pc = 91) : docAsk k K M f = ⟨1, 7, hnd f.w, 0, 0⟩ := by simp [docAsk, h]
theorem ask92 (h : f.pc = 92) : docAsk k K M f = ⟨3, 2, 0, f.w, pk (up (hi f.w)) (lo f.l)⟩ := by simp [docAsk, h]
theorem ask96 (h : f.pc = 96) : docAsk k K M f = ⟨2, 7, hnd f.give, 0, pk (hi f.give) (lo f.w)⟩ := by simp [docAsk, h]
theorem ask97 (h : f.pc = 97) : docAsk k K M f = ⟨3, 2, 0, f.w, pk (up (hi f.w)) (lo f.give)⟩ := by simp [docAsk, h]
theorem tell1 (was : Int) (dn : Bool) (h : f.pc = 1) : docTell k K T M f was dn = ({ f with g := was, pc := 2 }) := by simp only [docTell, h, Int.reduceEq, if_false, if_true]
theorem tell2 (was : Int) (dn : Bool) (h : f.pc = 2) : docTell k K T M f was dn = ({ f with pc := 3 }) := by simp only [docTell, h, Int.reduceEq, if_false, if_true]
theorem tell3 (was : Int) (dn : Bool) (h : f.pc = 3) : docTell k K T M f was dn = (if ¬ was = f.g then { f with g := was, pc := 2 } else if f.kd = 6 then { f with pc := 0 } else { f with pc := if k = 1 then (if f.kd = 1 then 10 else 20) else (if f.kd = 1 then 40 else 50) }) := by simp only [docTell, h, Int.reduceEq, if_false, if_true]
theorem tell4 (was : Int) (dn : Bool) (h : f.pc = 4) : docTell k K T M f was dn = ({ f with pc := 0 }) := by simp only [docTell, h, Int.reduceEq, if_false, if_true]
theorem tell30 (was : Int) (dn : Bool) (h : f.pc = 30) : docTell k K T M f was dn = ({ f with g := was, pos := 0, pc := 31 }) := by simp only [docTell, h, Int.reduceEq, if_false, if_true]
theorem tell31 (was : Int) (dn : Bool) (h : f.pc = 31) : docTell k K T M f was dn = (if ¬ was = 0 ∧ ¬ was = w64 (f.g + 1) then { f with pc := 33 } else { f with pos := f.pos + 1, pc := if f.pos + 1 = T then 32 else 31 }) := by simp only [docTell, h, Int.reduceEq, if_false, if_true]
theorem tell32 (was : Int) (dn : Bool) (h : f.pc = 32) : docTell k K T M f was dn = ({ f with pc := 33 }) := by simp only [docTell, h, Int.reduceEq, if_false, if_true]
theorem tell33 (was : Int) (dn : Bool) (h : f.pc = 33) : docTell k K T M f was dn = ({ f with g := was, pc := 34 }) := by simp only [docTell, h, Int.reduceEq, if_false, if_true]
theorem tell34 (was : Int) (dn : Bool) (h : f.pc = 34) : docTell k K T M f was dn = ({ f with w := was, pc := if lo was = 0 ∨ hi was + 2 > f.g then 0 else 35 }) := by simp only [docTell, h, Int.reduceEq, if_false, if_true]
theorem tell35 (was : Int) (dn : Bool) (h : f.pc = 35) : docTell k K T M f was dn = (if dn then f.chained (lo f.w) 0 else { f with pc := 0 }) := by simp only [docTell, h, Int.reduceEq, if_false, if_true]
theorem tell80 (was : Int) (dn : Bool) (h : f.pc = 80) : docTell k K T M f was dn = ({ f with g := was, pc := 81 }) := by simp only [docTell, h, Int.reduceEq, if_false, if_true]
theorem tell81 (was : Int) (dn : Bool) (h : f.pc = 81) : docTell k K T M f was dn = ({ f with w := was, pc := if ¬ lo was = 0 ∧ ¬ hi was = lo f.g then 82 else 83 }) := by simp only [docTell, h, Int.reduceEq, if_false, if_true]
theorem tell82 (was : Int) (dn : Bool) (h : f.pc = 82) : docTell k K T M f was dn = (if dn then f.chained (lo f.w) 81 else { f with pc := 81 }) := by simp only [docTell, h, Int.reduceEq, if_false, if_true]
theorem tell83 (was : Int) (dn : Bool) (h : f.pc = 83) : docTell k K T M f was dn = ({ f with pc := 84 }) := by simp only [docTell, h, Int.reduceEq, if_false, if_true]
theorem tell84 (was : Int) (dn : Bool) (h : f.pc = 84) : docTell k K T M f was dn = (if dn then { f with pc := if f.kd = 8 then 0 else if k = 1 then 20 else 50 } else { f with pc := 81 }) := by simp only [docTell, h, Int.reduceEq, if_false, if_true]
theorem tell86 (was : Int) (dn : Bool) (h : f.pc = 86) : docTell k K T M f was dn = (({ f with chain := lo was } : FS).gives (pk (hi was) f.chain) 87) := by simp only [docTell, h, Int.reduceEq, if_false, if_true]
theorem tell90 (was : Int) (dn : Bool) (h : f.pc = 90) : docTell k K T M f was dn = (if lo was = 0 then f.ends k 4 else { f with w := was, pc := 91 }) := by simp only [docTell, h, Int.reduceEq, if_false, if_true]
theorem tell91 (was : Int) (dn : Bool) (h : f.pc = 91) : docTell k K T M f was dn = ({ f with l := was, pc := 92 }) := by simp only [docTell, h, Int.reduceEq, if_false, if_true]
theorem tell92 (was : Int) (dn : Bool) (h : f.pc = 92) : docTell k K T M f was dn = (if dn then (if f.kd = 4 then { f with hold := pk (hi f.l) (lo f.w), out := dec (lo f.w), pc := 0 } else { f with hold := pk (hi f.l) (lo f.w), pc := f.back }) else { f with pc := 90 }) := by simp only [docTell, h, Int.reduceEq, if_false, if_true]
theorem tell95 (was : Int) (dn : Bool) (h : f.pc = 95) : docTell k K T M f was dn = ({ f with w := was, pc := 96 }) := by simp only [docTell, h, Int.reduceEq, if_false, if_true]
theorem tell96 (was : Int) (dn : Bool) (h : f.pc = 96) : docTell k K T M f was dn = ({ f with pc := 97 }) := by simp only [docTell, h, Int.reduceEq, if_false, if_true]
theorem tell97 (was : Int) (dn : Bool) (h : f.pc = 97) : docTell k K T M f was dn = (if dn then (if f.back = 87 then f.chained f.chain f.behind else { f with pc := f.back }) else { f with pc := 95 }) := by simp only [docTell, h, Int.reduceEq, if_false, if_true]
end
/-- nothing was told behind the end -/
theorem over_at {Z : Mac} {f0 : FS} {fs : List (Int × Bool)} (h : Going (Z.plan f0) fs) {k : Nat} (hk : k ≤ fs.length) (hp : (Z.after f0 (fs.take k)).pc = 0) : k = fs.length := by
  rcases Nat.lt_or_ge k fs.length with hlt | hge
  · obtain ⟨a, ha⟩ := h.1 k hlt
    have : Z.nx (Z.after f0 (fs.take k)) = .ask a := ha
    rw [Mac.nx_fin hp] at this
    cases this
  · omega
theorem take_succ_get {α : Type} {l : List α} {k : Nat} {x : α} (h : l[k]? = some x) : l.take (k + 1) = l.take k ++ [x] := by rw [List.take_add_one, h]; rfl
theorem after_next {Z : Mac} {f0 : FS} {fs : List (Int × Bool)} {k : Nat} {x : Int × Bool} (h : fs[k]? = some x) : Z.after f0 (fs.take (k + 1)) = Z.tell (Z.after f0 (fs.take k)) x.1 x.2 := by rw [take_succ_get h, Mac.after_snoc]
theorem plan_at {Z : Mac} {k : Nat} {f0 f : FS} {fs : List (Int × Bool)} (hk : k = fs.length) (h : Z.after f0 (fs.take k) = f) : Z.plan f0 fs = Z.nx f := by
  rw [hk, List.take_length] at h
  rw [← h]; rfl
end Go.Proofs.Ytffppdcpiieapaa.Arenac

namespace Go.Proofs.Ytffppdcpiieapaa.Arenac
open Go.RowKit Go.Proofs.Ytffppdcpiieapaa.Memc Go.Proofs.Ytffppdcpiieapaa.Procc Go.Proofs.Ytffppdcpiieapaa.Machc Go.Proofs.Ytffppdcpiieapaa.Drivec Go.Proofs.Ytffppdcpiieapaa.Wordc
set_option linter.unusedVariables false
set_option maxRecDepth 100000

theorem read_ask (W : World) (base gn gp gm gx P k : Nat) (run : Value) (s : Sl) (fs : List (Int × Bool)) (ask ov : Bool) (cd ou : Int) (h : Env W base gn gp gm gx P k run s fs ask ov cd ou) (hk : k = fs.length) (ar at_ : Int) :
    Calls Try.prog 76 #[.func (.func 149) #[] #[.pointer (some ⟨gn, 0, none⟩), .pointer (some ⟨gp, 0, none⟩), .pointer (some ⟨gm, 0, none⟩), .pointer (some ⟨gx, 0, none⟩)], .int .i64 ar, .int .i64 at_] W (Asked W gm gx ⟨1, ar, at_, 0, 0⟩) := by
  have ha : Calls Try.prog 149 #[.agg #[.int .i64 1, .int .i64 ar, .int .i64 at_, .int .u64 0, .int .u64 0], .pointer (some ⟨gn, 0, none⟩), .pointer (some ⟨gp, 0, none⟩), .pointer (some ⟨gm, 0, none⟩), .pointer (some ⟨gx, 0, none⟩)] W (Asked W gm gx ⟨1, ar, at_, 0, 0⟩) := h.asks hk ⟨1, ar, at_, 0, 0⟩
  have HA := Lib.hid ha
  clear ha h
  go_enter Try.func76, Try.ntmps76
  go_wp2_with (go_at_call 149; (with_reducible refine HA.out.mono ?_); rintro e w1 ⟨rfl, h1⟩; have H1 := Lib.hid h1; clear h1)
  exact ⟨rfl, rfl, H1.out⟩
theorem read_tell (W : World) (base gn gp gm gx P k : Nat) (run : Value) (s : Sl) (fs : List (Int × Bool)) (ask ov : Bool) (cd ou : Int) (x : Int × Bool) (h : Env W base gn gp gm gx P k run s fs ask ov cd ou) (hx : fs[k]? = some x) (ar at_ : Int) :
    Calls Try.prog 76 #[.func (.func 149) #[] #[.pointer (some ⟨gn, 0, none⟩), .pointer (some ⟨gp, 0, none⟩), .pointer (some ⟨gm, 0, none⟩), .pointer (some ⟨gx, 0, none⟩)], .int .i64 ar, .int .i64 at_] W fun e w' => e = .returned (.int .u64 x.1) ∧ Env w' base gn gp gm gx P (k + 1) run s fs ask ov cd ou ∧ Only (fun g => g = gn) W w' := by
  have ha : Calls Try.prog 149 #[.agg #[.int .i64 1, .int .i64 ar, .int .i64 at_, .int .u64 0, .int .u64 0], .pointer (some ⟨gn, 0, none⟩), .pointer (some ⟨gp, 0, none⟩), .pointer (some ⟨gm, 0, none⟩), .pointer (some ⟨gx, 0, none⟩)] W _ := h.tells hx ⟨1, ar, at_, 0, 0⟩
  have HA := Lib.hid ha
  clear ha h
  go_enter Try.func76, Try.ntmps76
  go_wp2_with (go_at_call 149; (with_reducible refine HA.out.mono ?_); rintro e w1 ⟨rfl, h1⟩; have H1 := Lib.hid h1; clear h1)
  first | go_ret2 | go_ret | go_end0 | refine bodyPost_ret (results_none rfl _ _ _) rfl ?_
  exact ⟨rfl, H1.out⟩
theorem write_ask (W : World) (base gn gp gm gx P k : Nat) (run : Value) (s : Sl) (fs : List (Int × Bool)) (ask ov : Bool) (cd ou : Int) (h : Env W base gn gp gm gx P k run s fs ask ov cd ou) (hk : k = fs.length) (ar at_ nw : Int) :
    Calls Try.prog 77 #[.func (.func 149) #[] #[.pointer (some ⟨gn, 0, none⟩), .pointer (some ⟨gp, 0, none⟩), .pointer (some ⟨gm, 0, none⟩), .pointer (some ⟨gx, 0, none⟩)], .int .i64 ar, .int .i64 at_, .int .u64 nw] W (Asked W gm gx ⟨2, ar, at_, 0, nw⟩) := by
  have ha : Calls Try.prog 149 #[.agg #[.int .i64 2, .int .i64 ar, .int .i64 at_, .int .u64 0, .int .u64 nw], .pointer (some ⟨gn, 0, none⟩), .pointer (some ⟨gp, 0, none⟩), .pointer (some ⟨gm, 0, none⟩), .pointer (some ⟨gx, 0, none⟩)] W (Asked W gm gx ⟨2, ar, at_, 0, nw⟩) := h.asks hk ⟨2, ar, at_, 0, nw⟩
  have HA := Lib.hid ha
  clear ha h
  go_enter Try.func77, Try.ntmps77
  go_wp2_with (go_at_call 149; (with_reducible refine HA.out.mono ?_); rintro e w1 ⟨rfl, h1⟩; have H1 := Lib.hid h1; clear h1)
  exact ⟨rfl, rfl, H1.out⟩
theorem write_tell (W : World) (base gn gp gm gx P k : Nat) (run : Value) (s : Sl) (fs : List (Int × Bool)) (ask ov : Bool) (cd ou : Int) (x : Int × Bool) (h : Env W base gn gp gm gx P k run s fs ask ov cd ou) (hx : fs[k]? = some x) (ar at_ nw : Int) :
    Calls Try.prog 77 #[.func (.func 149) #[] #[.pointer (some ⟨gn, 0, none⟩), .pointer (some ⟨gp, 0, none⟩), .pointer (some ⟨gm, 0, none⟩), .pointer (some ⟨gx, 0, none⟩)], .int .i64 ar, .int .i64 at_, .int .u64 nw] W fun e w' => e = .returned (.tuple #[]) ∧ Env w' base gn gp gm gx P (k + 1) run s fs ask ov cd ou ∧ Only (fun g => g = gn) W w' := by
  have ha : Calls Try.prog 149 #[.agg #[.int .i64 2, .int .i64 ar, .int .i64 at_, .int .u64 0, .int .u64 nw], .pointer (some ⟨gn, 0, none⟩), .pointer (some ⟨gp, 0, none⟩), .pointer (some ⟨gm, 0, none⟩), .pointer (some ⟨gx, 0, none⟩)] W _ := h.tells hx ⟨2, ar, at_, 0, nw⟩
  have HA := Lib.hid ha
  clear ha h
  go_enter Try.func77, Try.ntmps77
  go_wp2_with (go_at_call 149; (with_reducible refine HA.out.mono ?_); rintro e w1 ⟨rfl, h1⟩; have H1 := Lib.hid h1; clear h1)
  first | go_ret2 | go_ret | go_end0 | refine bodyPost_ret (results_none rfl _ _ _) rfl ?_
  exact ⟨rfl, H1.out⟩
theorem swap_ask (W : World) (base gn gp gm gx P k : Nat) (run : Value) (s : Sl) (fs : List (Int × Bool)) (ask ov : Bool) (cd ou : Int) (h : Env W base gn gp gm gx P k run s fs ask ov cd ou) (hk : k = fs.length) (ar at_ old nw : Int) :
    Calls Try.prog 81 #[.func (.func 149) #[] #[.pointer (some ⟨gn, 0, none⟩), .pointer (some ⟨gp, 0, none⟩), .pointer (some ⟨gm, 0, none⟩), .pointer (some ⟨gx, 0, none⟩)], .int .i64 ar, .int .i64 at_, .int .u64 old, .int .u64 nw] W (Asked W gm gx ⟨3, ar, at_, old, nw⟩) := by
  have ha : Calls Try.prog 149 #[.agg #[.int .i64 3, .int .i64 ar, .int .i64 at_, .int .u64 old, .int .u64 nw], .pointer (some ⟨gn, 0, none⟩), .pointer (some ⟨gp, 0, none⟩), .pointer (some ⟨gm, 0, none⟩), .pointer (some ⟨gx, 0, none⟩)] W (Asked W gm gx ⟨3, ar, at_, old, nw⟩) := h.asks hk ⟨3, ar, at_, old, nw⟩
  have HA := Lib.hid ha
  clear ha h
  go_enter Try.func81, Try.ntmps81
  go_wp2_with (go_at_call 149; (with_reducible refine HA.out.mono ?_); rintro e w1 ⟨rfl, h1⟩; have H1 := Lib.hid h1; clear h1)
  exact ⟨rfl, rfl, H1.out⟩
theorem swap_tell (W : World) (base gn gp gm gx P k : Nat) (run : Value) (s : Sl) (fs : List (Int × Bool)) (ask ov : Bool) (cd ou : Int) (x : Int × Bool) (h : Env W base gn gp gm gx P k run s fs ask ov cd ou) (hx : fs[k]? = some x) (ar at_ old nw : Int) :
    Calls Try.prog 81 #[.func (.func 149) #[] #[.pointer (some ⟨gn, 0, none⟩), .pointer (some ⟨gp, 0, none⟩), .pointer (some ⟨gm, 0, none⟩), .pointer (some ⟨gx, 0, none⟩)], .int .i64 ar, .int .i64 at_, .int .u64 old, .int .u64 nw] W fun e w' => e = .returned (.tuple #[.int .u64 x.1, .bool x.2]) ∧ Env w' base gn gp gm gx P (k + 1) run s fs ask ov cd ou ∧ Only (fun g => g = gn) W w' := by
  have ha : Calls Try.prog 149 #[.agg #[.int .i64 3, .int .i64 ar, .int .i64 at_, .int .u64 old, .int .u64 nw], .pointer (some ⟨gn, 0, none⟩), .pointer (some ⟨gp, 0, none⟩), .pointer (some ⟨gm, 0, none⟩), .pointer (some ⟨gx, 0, none⟩)] W _ := h.tells hx ⟨3, ar, at_, old, nw⟩
  have HA := Lib.hid ha
  clear ha h
  go_enter Try.func81, Try.ntmps81
  go_wp2_with (go_at_call 149; (with_reducible refine HA.out.mono ?_); rintro e w1 ⟨rfl, h1⟩; have H1 := Lib.hid h1; clear h1)
  first | go_ret2 | go_ret | go_end0 | refine bodyPost_ret (results_none rfl _ _ _) rfl ?_
  exact ⟨rfl, H1.out⟩
end Go.Proofs.Ytffppdcpiieapaa.Arenac

namespace Go.Proofs.Ytffppdcpiieapaa.Arenac
open Go.RowKit Go.Proofs.Ytffppdcpiieapaa.Memc Go.Proofs.Ytffppdcpiieapaa.Procc Go.Proofs.Ytffppdcpiieapaa.Machc Go.Proofs.Ytffppdcpiieapaa.Drivec Go.Proofs.Ytffppdcpiieapaa.Wordc
set_option linter.unusedVariables false
set_option maxRecDepth 100000

theorem asked_d {W W0 W' : World} {gn gm gx : Nat} {a : Acc} {e : Ending} (h : Asked W gm gx a e W') (ho : Only (fun g => g = gn) W0 W) : AskD W0 gn gm gx a e W' :=
  ⟨h.1, h.2.1, h.2.2.1, (ho.mono (fun g hg => .inl hg)).trans (h.2.2.2.mono (fun g hg => .inr hg))⟩
/-- how many findings were told, as memory has it -/
def kOf (gn : Nat) (w : World) : Nat := match w.cell? ⟨gn, 0, none⟩ with | some v => (intOf v).toNat | none => 0
theorem kof_env {W : World} {base gn gp gm gx P k : Nat} {run : Value} {s : Sl} {fs : List (Int × Bool)} {ask ov : Bool} {cd ou : Int} (h : Env W base gn gp gm gx P k run s fs ask ov cd ou) : kOf gn W = k := by
  unfold kOf
  rw [h.hn.cell 0]
  exact Int.toNat_natCast k
/-- a piece of a call: it asks for the next access, or it is over, and the call goes on behind some more findings -/
def PieceD (W : World) (base gn gp gm gx P : Nat) (run : Value) (s : Sl) (fs : List (Int × Bool)) (ask ov : Bool) (cd ou : Int) (Z : Mac) (f0 : FS) (R : FS → Ending → Prop) (e : Ending) (w' : World) : Prop :=
  (∃ a, Z.plan f0 fs = .ask a ∧ AskD W gn gm gx a e w') ∨ ∃ (k' : Nat) (f' : FS), Env w' base gn gp gm gx P k' run s fs ask ov cd ou ∧ Only (fun g => g = gn) W w' ∧ Z.after f0 (fs.take k') = f' ∧ R f' e
section
variable {kk : Int} {K T M : Nat}
theorem nx_at {f : FS} {a : Acc} (hp : ¬ f.pc = 0) (h : docAsk kk K M f = a) : (docZ kk K T M).nx f = .ask a := by rw [Mac.nx_ask hp, ← h]; rfl
theorem nx_end {f : FS} (hp : f.pc = 0) : (docZ kk K T M).nx f = .fin f.code f.out := Mac.nx_fin hp
theorem tell_at {f0 f f' : FS} {fs : List (Int × Bool)} {k : Nat} {x : Int × Bool} (h : fs[k]? = some x) (hf : (docZ kk K T M).after f0 (fs.take k) = f) (ht : docTell kk K T M f x.1 x.2 = f') : (docZ kk K T M).after f0 (fs.take (k + 1)) = f' := by
  rw [after_next h, hf]; exact ht
/-- a segment was taken -/
def took (f : FS) (rf : Int) : FS := if f.kd = 4 then { f with hold := rf, out := dec (lo f.w), pc := 0 } else { f with hold := rf, pc := f.back }
/-- a segment was given back -/
def gave (f : FS) : FS := if f.back = 87 then f.chained f.chain f.behind else { f with pc := f.back }
theorem tell90a {f : FS} {was : Int} (dn : Bool) (h : f.pc = 90) (hl : lo was = 0) : docTell kk K T M f was dn = f.ends kk 4 := (tell90 was dn h).trans (if_pos hl)
theorem tell90b {f : FS} {was : Int} (dn : Bool) (h : f.pc = 90) (hl : ¬ lo was = 0) : docTell kk K T M f was dn = { f with w := was, pc := 91 } := (tell90 was dn h).trans (if_neg hl)
theorem tell92t {f : FS} {dn : Bool} (was : Int) (h : f.pc = 92) (hd : dn = true) : docTell kk K T M f was dn = took f (pk (hi f.l) (lo f.w)) := (tell92 was dn h).trans (if_pos hd)
theorem tell92f {f : FS} {dn : Bool} (was : Int) (h : f.pc = 92) (hd : dn = false) : docTell kk K T M f was dn = { f with pc := 90 } := (tell92 was dn h).trans (if_neg (by rw [hd]; decide))
theorem tell97t {f : FS} {dn : Bool} (was : Int) (h : f.pc = 97) (hd : dn = true) : docTell kk K T M f was dn = gave f := (tell97 was dn h).trans (if_pos hd)
theorem tell97f {f : FS} {dn : Bool} (was : Int) (h : f.pc = 97) (hd : dn = false) : docTell kk K T M f was dn = { f with pc := 95 } := (tell97 was dn h).trans (if_neg (by rw [hd]; decide))
end
set_option maxHeartbeats 1000000 in
theorem lead_ask (W : World) (base gn gp gm gx P k : Nat) (run : Value) (s : Sl) (fs : List (Int × Bool)) (ask ov : Bool) (cd ou : Int) (f u : Int) (h : Env W base gn gp gm gx P k run s fs ask ov cd ou) (hk : k = fs.length) (hf : W64 f) (ht : W64 u) :
    Calls Try.prog 112 #[.func (.func 149) #[] #[.pointer (some ⟨gn, 0, none⟩), .pointer (some ⟨gp, 0, none⟩), .pointer (some ⟨gm, 0, none⟩), .pointer (some ⟨gx, 0, none⟩)], .int .u64 f, .int .u64 u] W (Asked W gm gx ⟨3, 2, 0, f, pk (up (hi f)) (lo u)⟩) := by
  have ha : Calls Try.prog 81 #[.func (.func 149) #[] #[.pointer (some ⟨gn, 0, none⟩), .pointer (some ⟨gp, 0, none⟩), .pointer (some ⟨gm, 0, none⟩), .pointer (some ⟨gx, 0, none⟩)], .int .i64 2, .int .i64 0, .int .u64 f, .int .u64 ((f / 4294967296 + 1) % 4294967296 * 4294967296 + u % 4294967296)] W _ := swap_ask W base gn gp gm gx P k run s fs ask ov cd ou h hk 2 0 f (pk (up (hi f)) (lo u))
  have HA := Lib.hid ha
  clear ha
  obtain ⟨f0, f1⟩ := hf
  obtain ⟨t0, t1⟩ := ht
  clear h
  go_enter Try.func112, Try.ntmps112
  go_wp2_with (first
    | (go_at_call 79; refine (high_c _ _ f0 f1).mono ?_; rintro e w' ⟨rfl, rfl⟩)
    | (go_at_call 66; refine (low_c _ _ t0 t1).mono ?_; rintro e w' ⟨rfl, rfl⟩)
    | (go_at_call 70; refine (pack_c _ _ _ (by omega) (by omega) (by omega) (by omega)).mono ?_; rintro e w' ⟨rfl, rfl⟩)
    | (go_at_call 81; (with_reducible refine HA.out.mono ?_); rintro e w1 ⟨rfl, h1⟩; have H1 := Lib.hid h1; clear h1))
  exact ⟨rfl, rfl, H1.out⟩
set_option maxHeartbeats 1000000 in
theorem lead_tell (W : World) (base gn gp gm gx P k : Nat) (run : Value) (s : Sl) (fs : List (Int × Bool)) (ask ov : Bool) (cd ou : Int) (f u : Int) (h : Env W base gn gp gm gx P k run s fs ask ov cd ou) (x : Int × Bool) (hx : fs[k]? = some x) (hf : W64 f) (ht : W64 u) :
    Calls Try.prog 112 #[.func (.func 149) #[] #[.pointer (some ⟨gn, 0, none⟩), .pointer (some ⟨gp, 0, none⟩), .pointer (some ⟨gm, 0, none⟩), .pointer (some ⟨gx, 0, none⟩)], .int .u64 f, .int .u64 u] W (fun e w' => e = .returned (.bool x.2) ∧ Env w' base gn gp gm gx P (k + 1) run s fs ask ov cd ou ∧ Only (fun g => g = gn) W w') := by
  have ha : Calls Try.prog 81 #[.func (.func 149) #[] #[.pointer (some ⟨gn, 0, none⟩), .pointer (some ⟨gp, 0, none⟩), .pointer (some ⟨gm, 0, none⟩), .pointer (some ⟨gx, 0, none⟩)], .int .i64 2, .int .i64 0, .int .u64 f, .int .u64 ((f / 4294967296 + 1) % 4294967296 * 4294967296 + u % 4294967296)] W _ := swap_tell W base gn gp gm gx P k run s fs ask ov cd ou x h hx 2 0 f (pk (up (hi f)) (lo u))
  have HA := Lib.hid ha
  clear ha
  obtain ⟨f0, f1⟩ := hf
  obtain ⟨t0, t1⟩ := ht
  clear h
  go_enter Try.func112, Try.ntmps112
  go_wp2_with (first
    | (go_at_call 79; refine (high_c _ _ f0 f1).mono ?_; rintro e w' ⟨rfl, rfl⟩)
    | (go_at_call 66; refine (low_c _ _ t0 t1).mono ?_; rintro e w' ⟨rfl, rfl⟩)
    | (go_at_call 70; refine (pack_c _ _ _ (by omega) (by omega) (by omega) (by omega)).mono ?_; rintro e w' ⟨rfl, rfl⟩)
    | (go_at_call 81; (with_reducible refine HA.out.mono ?_); rintro e w1 ⟨rfl, h1⟩; have H1 := Lib.hid h1; clear h1))
  go_ret
  exact ⟨rfl, H1.out⟩
end Go.Proofs.Ytffppdcpiieapaa.Arenac

namespace Go.Proofs.Ytffppdcpiieapaa.Arenac
open Go.RowKit Go.Proofs.Ytffppdcpiieapaa.Memc Go.Proofs.Ytffppdcpiieapaa.Procc Go.Proofs.Ytffppdcpiieapaa.Machc Go.Proofs.Ytffppdcpiieapaa.Drivec Go.Proofs.Ytffppdcpiieapaa.Wordc
set_option linter.unusedVariables false
set_option maxRecDepth 100000

/-- a call that is on: where its findings lie, and the document's machine of it -/
structure Cx where
  base : Nat
  gn : Nat
  gp : Nat
  gm : Nat
  gx : Nat
  P : Nat
  run : Value
  s : Sl
  fs : List (Int × Bool)
  ask : Bool
  ov : Bool
  cd : Int
  ou : Int
  kk : Int
  K : Nat
  T : Nat
  M : Nat
  f0 : FS
  W0 : World
namespace Cx
/-- its doer -/
def doer (c : Cx) : Value := .func (.func 149) #[] #[.pointer (some ⟨c.gn, 0, none⟩), .pointer (some ⟨c.gp, 0, none⟩), .pointer (some ⟨c.gm, 0, none⟩), .pointer (some ⟨c.gx, 0, none⟩)]
/-- its findings are words -/
def Ok (c : Cx) : Prop := ∀ x ∈ c.fs, W64 x.1
def tel (c : Cx) (f : FS) (was : Int) (dn : Bool) : FS := docTell c.kk c.K c.T c.M f was dn
/-- behind k findings it is so far -/
def At (c : Cx) (k : Nat) (f : FS) (w : World) : Prop := Env w c.base c.gn c.gp c.gm c.gx c.P k c.run c.s c.fs c.ask c.ov c.cd c.ou ∧ Only (fun g => g = c.gn) c.W0 w ∧ (docZ c.kk c.K c.T c.M).after c.f0 (c.fs.take k) = f
/-- it pauses: it asks for what is next -/
def Asks (c : Cx) (e : Ending) (w' : World) : Prop := ∃ a, (docZ c.kk c.K c.T c.M).plan c.f0 c.fs = .ask a ∧ AskD c.W0 c.gn c.gm c.gx a e w'
/-- it pauses, or goes on behind some findings more -/
def To (c : Cx) (k : Nat) (R : FS → Ending → Prop) (e : Ending) (w' : World) : Prop := c.Asks e w' ∨ ∃ (k' : Nat) (f' : FS), k ≤ k' ∧ c.At k' f' w' ∧ R f' e
theorem Asks.is {c : Cx} {e : Ending} {w' : World} (h : c.Asks e w') : e = .panicked [{ v := .iface 197 (.agg #[]), recovered := false }] := by obtain ⟨a, _, h⟩ := h; exact h.1
theorem kof {c : Cx} {k : Nat} {f : FS} {w : World} (h : c.At k f w) : kOf c.gn w = k := kof_env h.1
theorem le {c : Cx} {k : Nat} {f : FS} {w : World} (h : c.At k f w) : k ≤ c.fs.length := h.1.hk
theorem less {c : Cx} {k k' : Nat} {f f' : FS} {w w' : World} (h : c.At k f w) (h' : c.At k' f' w') (hk : k < k') : c.fs.length - kOf c.gn w' < c.fs.length - kOf c.gn w := by
  rw [kof h, kof h']
  have := le h'
  omega
/-- either it pauses, or a finding is told -/
theorem cases (c : Cx) (hok : c.Ok) {k : Nat} {f : FS} {w : World} (h : c.At k f w) (hp : ¬ f.pc = 0) {a : Acc} (ha : docAsk c.kk c.K c.M f = a) :
    (k = c.fs.length ∧ (docZ c.kk c.K c.T c.M).plan c.f0 c.fs = .ask a) ∨ ∃ x : Int × Bool, c.fs[k]? = some x ∧ W64 x.1 ∧ (docZ c.kk c.K c.T c.M).after c.f0 (c.fs.take (k + 1)) = c.tel f x.1 x.2 := by
  by_cases hk : k = c.fs.length
  · exact .inl ⟨hk, (plan_at hk h.2.2).trans (nx_at hp ha)⟩
  · have hlt : k < c.fs.length := by have := le h; omega
    obtain ⟨x, hx⟩ : ∃ x, c.fs[k]? = some x := ⟨_, List.getElem?_eq_getElem hlt⟩
    exact .inr ⟨x, hx, hok x (List.mem_of_getElem? hx), tell_at hx h.2.2 rfl⟩
theorem read (c : Cx) (hok : c.Ok) {k : Nat} {f : FS} {w : World} (h : c.At k f w) (hp : ¬ f.pc = 0) (ar at_ : Int) (ha : docAsk c.kk c.K c.M f = ⟨1, ar, at_, 0, 0⟩) :
    Calls Try.prog 76 #[c.doer, .int .i64 ar, .int .i64 at_] w (c.To (k + 1) fun f' e => ∃ (was : Int) (dn : Bool), W64 was ∧ e = .returned (.int .u64 was) ∧ f' = c.tel f was dn) := by
  rcases c.cases hok h hp ha with ⟨hk, hpl⟩ | ⟨x, hx, hx1, hx2⟩
  · refine (read_ask w c.base c.gn c.gp c.gm c.gx c.P k c.run c.s c.fs c.ask c.ov c.cd c.ou h.1 hk ar at_).mono ?_
    intro e w' h1
    exact .inl ⟨_, hpl, asked_d h1 h.2.1⟩
  · refine (read_tell w c.base c.gn c.gp c.gm c.gx c.P k c.run c.s c.fs c.ask c.ov c.cd c.ou x h.1 hx ar at_).mono ?_
    rintro e w' ⟨rfl, h2, h3⟩
    exact .inr ⟨k + 1, _, Nat.le_refl _, ⟨h2, h.2.1.trans h3, hx2⟩, x.1, x.2, hx1, rfl, rfl⟩
theorem write (c : Cx) (hok : c.Ok) {k : Nat} {f : FS} {w : World} (h : c.At k f w) (hp : ¬ f.pc = 0) (ar at_ nw : Int) (ha : docAsk c.kk c.K c.M f = ⟨2, ar, at_, 0, nw⟩) :
    Calls Try.prog 77 #[c.doer, .int .i64 ar, .int .i64 at_, .int .u64 nw] w (c.To (k + 1) fun f' e => e = .returned (.tuple #[]) ∧ ∃ (was : Int) (dn : Bool), W64 was ∧ f' = c.tel f was dn) := by
  rcases c.cases hok h hp ha with ⟨hk, hpl⟩ | ⟨x, hx, hx1, hx2⟩
  · refine (write_ask w c.base c.gn c.gp c.gm c.gx c.P k c.run c.s c.fs c.ask c.ov c.cd c.ou h.1 hk ar at_ nw).mono ?_
    intro e w' h1
    exact .inl ⟨_, hpl, asked_d h1 h.2.1⟩
  · refine (write_tell w c.base c.gn c.gp c.gm c.gx c.P k c.run c.s c.fs c.ask c.ov c.cd c.ou x h.1 hx ar at_ nw).mono ?_
    rintro e w' ⟨rfl, h2, h3⟩
    exact .inr ⟨k + 1, _, Nat.le_refl _, ⟨h2, h.2.1.trans h3, hx2⟩, rfl, x.1, x.2, hx1, rfl⟩
theorem swap (c : Cx) (hok : c.Ok) {k : Nat} {f : FS} {w : World} (h : c.At k f w) (hp : ¬ f.pc = 0) (ar at_ old nw : Int) (ha : docAsk c.kk c.K c.M f = ⟨3, ar, at_, old, nw⟩) :
    Calls Try.prog 81 #[c.doer, .int .i64 ar, .int .i64 at_, .int .u64 old, .int .u64 nw] w (c.To (k + 1) fun f' e => ∃ (was : Int) (dn : Bool), W64 was ∧ e = .returned (.tuple #[.int .u64 was, .bool dn]) ∧ f' = c.tel f was dn) := by
  rcases c.cases hok h hp ha with ⟨hk, hpl⟩ | ⟨x, hx, hx1, hx2⟩
  · refine (swap_ask w c.base c.gn c.gp c.gm c.gx c.P k c.run c.s c.fs c.ask c.ov c.cd c.ou h.1 hk ar at_ old nw).mono ?_
    intro e w' h1
    exact .inl ⟨_, hpl, asked_d h1 h.2.1⟩
  · refine (swap_tell w c.base c.gn c.gp c.gm c.gx c.P k c.run c.s c.fs c.ask c.ov c.cd c.ou x h.1 hx ar at_ old nw).mono ?_
    rintro e w' ⟨rfl, h2, h3⟩
    exact .inr ⟨k + 1, _, Nat.le_refl _, ⟨h2, h.2.1.trans h3, hx2⟩, x.1, x.2, hx1, rfl, rfl⟩
theorem lead (c : Cx) (hok : c.Ok) {k : Nat} {f : FS} {w : World} (h : c.At k f w) (hp : ¬ f.pc = 0) {x u : Int} (hx : W64 x) (hu : W64 u) (ha : docAsk c.kk c.K c.M f = ⟨3, 2, 0, x, pk (up (hi x)) (lo u)⟩) :
    Calls Try.prog 112 #[c.doer, .int .u64 x, .int .u64 u] w (c.To (k + 1) fun f' e => ∃ (was : Int) (dn : Bool), W64 was ∧ e = .returned (.bool dn) ∧ f' = c.tel f was dn) := by
  rcases c.cases hok h hp ha with ⟨hk, hpl⟩ | ⟨y, hy, hy1, hy2⟩
  · refine (lead_ask w c.base c.gn c.gp c.gm c.gx c.P k c.run c.s c.fs c.ask c.ov c.cd c.ou x u h.1 hk hx hu).mono ?_
    intro e w' h1
    exact .inl ⟨_, hpl, asked_d h1 h.2.1⟩
  · refine (lead_tell w c.base c.gn c.gp c.gm c.gx c.P k c.run c.s c.fs c.ask c.ov c.cd c.ou x u h.1 y hy hx hu).mono ?_
    rintro e w' ⟨rfl, h2, h3⟩
    exact .inr ⟨k + 1, _, Nat.le_refl _, ⟨h2, h.2.1.trans h3, hy2⟩, y.1, y.2, hy1, rfl, rfl⟩
theorem at_to {c : Cx} {k : Nat} {f f' : FS} {w : World} (h : c.At k f w) (e : f = f') : c.At k f' w := e ▸ h
theorem fs_pc {g : FS} {n : Int} (h : g.pc = n) : { g with pc := n } = g := by cases g; cases h; rfl
end Cx
end Go.Proofs.Ytffppdcpiieapaa.Arenac

namespace Go.Proofs.Ytffppdcpiieapaa.Arenac
open Go.RowKit Go.Proofs.Ytffppdcpiieapaa.Memc Go.Proofs.Ytffppdcpiieapaa.Procc Go.Proofs.Ytffppdcpiieapaa.Machc Go.Proofs.Ytffppdcpiieapaa.Drivec Go.Proofs.Ytffppdcpiieapaa.Wordc
set_option linter.unusedVariables false
set_option maxRecDepth 100000

theorem Cx.drop (c : Cx) (hok : c.Ok) {k : Nat} {f : FS} {w : World} (h : c.At k f w) (hp : f.pc = 4) {th : Int} (ht : f.t = th) :
    Calls Try.prog 47 #[c.doer, .int .i64 th] w (c.To (k + 1) fun f' e => e = .returned (.tuple #[]) ∧ f' = { f with pc := 0 }) := by
  obtain rfl := ht
  have HA0 := Lib.hid h
  have A0 := Lib.hid (ask4 (k := c.kk) (K := c.K) (M := c.M) hp)
  have T0 := Lib.hid (fun was dn => tell4 (k := c.kk) (K := c.K) (T := c.T) (M := c.M) was dn hp)
  have P0 := Lib.hid (show ¬ f.pc = 0 by rw [hp]; decide)
  clear h hp
  go_enter Try.func47, Try.ntmps47
  go_wp2_with (go_at_call 77; (with_reducible refine (c.write hok HA0.out P0.out 4 f.t 0 A0.out).mono ?_); rintro e v1 (hq | ⟨k1, g1, hk1, ha1, rfl, was1, dn1, hw1, rfl⟩); (obtain rfl := hq.is; first | exact ⟨rfl, .inl hq⟩ | (go_simp; exact ⟨rfl, .inl hq⟩) | (simp only [Exit.jump]; exact ⟨rfl, .inl hq⟩)); have HA1 : Hid (c.At k1 { f with pc := 0 } v1) := Lib.hid (Cx.at_to ha1 (T0.out _ _)); clear ha1)
  (first | go_end0 | refine bodyPost_ret (results_none rfl _ _ _) rfl ?_)
  exact .inr ⟨k1, _, hk1, HA1.out, rfl, rfl⟩
set_option maxHeartbeats 2000000 in
theorem Cx.hold (c : Cx) (hok : c.Ok) {k : Nat} {f : FS} {w : World} (h : c.At k f w) (hp : f.pc = 1) {th : Int} (ht : f.t = th) :
    Calls Try.prog 46 #[c.doer, .int .i64 th] w (c.To (k + 1) fun f' e => e = .returned (.tuple #[]) ∧ ∃ (g : Int) (dn : Bool), W64 g ∧ f' = c.tel { f with g := g, pc := 3 } g dn) := by
  obtain rfl := ht
  have HA0 := Lib.hid h
  have A0 := Lib.hid (ask1 (k := c.kk) (K := c.K) (M := c.M) hp)
  have T0 := Lib.hid (fun was dn => tell1 (k := c.kk) (K := c.K) (T := c.T) (M := c.M) was dn hp)
  have P0 := Lib.hid (show ¬ f.pc = 0 by rw [hp]; decide)
  clear h hp
  go_enter Try.func46, Try.ntmps46
  go_wp2_with fail
  refine wp_scope_jumps 0 (fun a' w' => ∃ (k2 : Nat) (gg : Int) (u2 u3 u5 u6 u7 u8 u9 u10 u11 u12 u13 u14 u15 u16 u17 u18 : Value), W64 gg ∧ k + 1 ≤ k2 ∧ c.At k2 { f with g := gg, pc := 2 } w' ∧ a' = { tmps := #[c.doer, .int .i64 f.t, u2, u3, .int .u64 gg, u5, u6, u7, u8, u9, u10, u11, u12, u13, u14, u15, u16, u17, u18], defers := [] }) (fun _ w' => c.fs.length - kOf c.gn w') rfl ?_ ?_
  · go_wp2_with (go_at_call 76; (with_reducible refine (c.read hok HA0.out P0.out 1 0 A0.out).mono ?_); rintro e v1 (hq | ⟨k1, g1, hk1, ha1, was1, dn1, hw1, rfl, rfl⟩); (obtain rfl := hq.is; first | exact ⟨rfl, .inl hq⟩ | (go_simp; exact ⟨rfl, .inl hq⟩) | (simp only [Exit.jump]; exact ⟨rfl, .inl hq⟩)); (have HW1 := Lib.hid hw1); have HA1 : Hid (c.At k1 { f with g := was1, pc := 2 } v1) := Lib.hid (Cx.at_to ha1 (T0.out _ _)); clear ha1; (have A2 : Hid (docAsk c.kk c.K c.M ({ f with g := was1, pc := 2 } : FS) = ⟨2, 4, f.t, 0, IntKind.u64.wrap (was1 + 1)⟩) := Lib.hid (by rw [IntKind.wrap_u64]; exact ask2 rfl)); (have A3 : Hid (docAsk c.kk c.K c.M ({ f with g := was1, pc := 3 } : FS) = ⟨1, 1, 0, 0, 0⟩) := Lib.hid (ask3 rfl)))
    go_step3
    go_wp2_with (first
      | (go_at_call 77; (with_reducible refine (c.write hok HA1.out (by simp) 4 f.t (IntKind.u64.wrap (was1 + 1)) A2.out).mono ?_); rintro e v3 (hq | ⟨k3, g3, hk3, ha3, rfl, was3, dn3, hw3, rfl⟩); (obtain rfl := hq.is; first | exact ⟨rfl, .inl hq⟩ | (go_simp; exact ⟨rfl, .inl hq⟩) | (simp only [Exit.jump]; exact ⟨rfl, .inl hq⟩)); have HA3 : Hid (c.At k3 { f with g := was1, pc := 3 } v3) := Lib.hid (Cx.at_to ha3 (tell2 _ _ rfl)); clear ha3)
      | (go_at_call 76; (with_reducible refine (c.read hok HA3.out (by simp) 1 0 A3.out).mono ?_); rintro e v4 (hq | ⟨k4, g4, hk4, ha4, was4, dn4, hw4, rfl, rfl⟩); (obtain rfl := hq.is; first | exact ⟨rfl, .inl hq⟩ | (go_simp; exact ⟨rfl, .inl hq⟩) | (simp only [Exit.jump]; exact ⟨rfl, .inl hq⟩)); (by_cases hne : was4 = was1 <;> (first | (have hz : (was4 != was1) = false := by (rw [hne]; simp)) | (have hz : (was4 != was1) = true := by simpa using hne)) <;> have HN := Lib.hid hne <;> have HA4 := Lib.hid ha4 <;> clear hne ha4)))
    · simp only [Exit.jump]
      (first | go_end0 | refine bodyPost_ret (results_none rfl _ _ _) rfl ?_)
      exact .inr ⟨k4, _, by omega, HA4.out, rfl, was1, dn4, HW1.out, by rw [HN.out]⟩
    · go_step3
      have HA5 : Hid (c.At k4 { f with g := was4, pc := 2 } v4) := Lib.hid (Cx.at_to HA4.out ((tell3 was4 dn4 rfl).trans (if_pos HN.out)))
      exact ⟨rfl, ⟨k4, was4, _, _, _, _, _, _, _, _, _, _, _, _, _, _, _, _, hw4, by omega, HA5.out, rfl⟩⟩
  · rintro a' w' ⟨k2, gg, u2, u3, u5, u6, u7, u8, u9, u10, u11, u12, u13, u14, u15, u16, u17, u18, hg, hk2, h2, rfl⟩
    have HG := Lib.hid hg
    have HA2 := Lib.hid h2
    clear hg h2
    (have A2 : Hid (docAsk c.kk c.K c.M ({ f with g := gg, pc := 2 } : FS) = ⟨2, 4, f.t, 0, IntKind.u64.wrap (gg + 1)⟩) := Lib.hid (by rw [IntKind.wrap_u64]; exact ask2 rfl))
    (have A3 : Hid (docAsk c.kk c.K c.M ({ f with g := gg, pc := 3 } : FS) = ⟨1, 1, 0, 0, 0⟩) := Lib.hid (ask3 rfl))
    go_wp2_with (first
      | (go_at_call 77; (with_reducible refine (c.write hok HA2.out (by simp) 4 f.t (IntKind.u64.wrap (gg + 1)) A2.out).mono ?_); rintro e v3 (hq | ⟨k3, g3, hk3, ha3, rfl, was3, dn3, hw3, rfl⟩); (obtain rfl := hq.is; first | exact ⟨rfl, .inl hq⟩ | (go_simp; exact ⟨rfl, .inl hq⟩) | (simp only [Exit.jump]; exact ⟨rfl, .inl hq⟩)); have HA3 : Hid (c.At k3 { f with g := gg, pc := 3 } v3) := Lib.hid (Cx.at_to ha3 (tell2 _ _ rfl)); clear ha3)
      | (go_at_call 76; (with_reducible refine (c.read hok HA3.out (by simp) 1 0 A3.out).mono ?_); rintro e v4 (hq | ⟨k4, g4, hk4, ha4, was4, dn4, hw4, rfl, rfl⟩); (obtain rfl := hq.is; first | exact ⟨rfl, .inl hq⟩ | (go_simp; exact ⟨rfl, .inl hq⟩) | (simp only [Exit.jump]; exact ⟨rfl, .inl hq⟩)); (by_cases hne : was4 = gg <;> (first | (have hz : (was4 != gg) = false := by (rw [hne]; simp)) | (have hz : (was4 != gg) = true := by simpa using hne)) <;> have HN := Lib.hid hne <;> have HA4 := Lib.hid ha4 <;> clear hne ha4)))
    · simp only [Exit.jump]
      (first | go_end0 | refine bodyPost_ret (results_none rfl _ _ _) rfl ?_)
      exact .inr ⟨k4, _, by omega, HA4.out, rfl, gg, dn4, HG.out, by rw [HN.out]⟩
    · go_step3
      have HA5 : Hid (c.At k4 { f with g := was4, pc := 2 } v4) := Lib.hid (Cx.at_to HA4.out ((tell3 was4 dn4 rfl).trans (if_pos HN.out)))
      exact ⟨rfl, ⟨k4, was4, _, _, _, _, _, _, _, _, _, _, _, _, _, _, _, _, hw4, by omega, HA5.out, rfl⟩, Cx.less HA2.out HA5.out (by omega)⟩
end Go.Proofs.Ytffppdcpiieapaa.Arenac
