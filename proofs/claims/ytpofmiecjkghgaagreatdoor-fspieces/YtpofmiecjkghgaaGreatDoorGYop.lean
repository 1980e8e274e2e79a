/- A move onto what may not be replaced. -/
import Derived.Test.YtpofmiecjkghgaaGreatDoorGYmp
import Derived.Deep.RegionHeld
namespace Go.Proofs.YtpofmiecjkghgaaGreatDoor
open Go.RowKit Go.Extern.Stop Go.Stop Go.Extern Go.Maps Go.Sort Go.Shelf
set_option maxRecDepth 1000000
structure MvC (nb b8 b9 b11 : Nat) (RY KY RI KX : Int) (va : Option Addr) (LL vc : Nat) (s : ByteArray) (db : Nat) (va8 : Option Addr) (vc8 : Nat) (t : ByteArray) (db2 : Nat) (w : World) : Prop where
  g : FnAt w nb RY KY
  x : FnAt w b9 RI KX
  s : SpAt w b8 (.slice va LL vc) s (ptr db)
  t : SpAt w b11 (.slice va8 LL vc8) t (ptr db2)
theorem MvC.keep {nb b8 b9 b11 : Nat} {RY KY RI KX : Int} {va : Option Addr} {LL vc : Nat} {s : ByteArray} {db : Nat} {va8 : Option Addr} {vc8 : Nat} {t : ByteArray} {db2 : Nat} {w w' : World} {bs : List Nat} (h : MvC nb b8 b9 b11 RY KY RI KX va LL vc s db va8 vc8 t db2 w) (ha : Apart bs w w') (h1 : nb ∉ bs) (h2 : b8 ∉ bs) (h3 : b9 ∉ bs) (h4 : b11 ∉ bs) : MvC nb b8 b9 b11 RY KY RI KX va LL vc s db va8 vc8 t db2 w' := ⟨h.g.keep ha h1, h.x.keep ha h3, h.s.keep ha h2, h.t.keep ha h4⟩
section
variable {fb rs hb : Nat} {E : TE} {w w' : World} {K : Nat -> Nat} {D : Nat -> List Int} {T : Nat -> List Rec} {f u lim : Nat}
structure ClashT (K : Nat -> Nat) (T : Nat -> List Rec) (tn : Nat) (a b : List UInt8) (l : List (List UInt8)) (s t : List UInt8) (p i0 j : Nat) (r ry : Rec) (kx ky : Nat) (lv : List (List Nat)) : Prop where
  la : a.length <= 2000
  lb : b.length <= 2000
  pa : splitB a = some (l ++ [s])
  pb : splitB b = some (l ++ [t])
  ne : a ≠ b
  out : withinB b a = false
  dir : dirT K T l = .ok p
  at_ : (T p)[i0]? = some r
  name : r.s = s
  aty : (T p)[j]? = some ry
  namey : ry.s = t
  file : K r.id = kx
  filey : K ry.id = ky
  lvok : LvOk K T tn r.id lv
  fit : l.length + 1 + lv.length <= 7
end
section
variable {fb rs hb : Nat} {E : TE} {w w' : World} {K : Nat -> Nat} {D : Nat -> List Int} {T : Nat -> List Rec} {f u lim : Nat}
end
section
variable {fb rs hb : Nat} {E : TE} {w w' : World} {K : Nat -> Nat} {D : Nat -> List Int} {T : Nat -> List Rec} {f u lim : Nat}
structure LoopT (K : Nat -> Nat) (T : Nat -> List Rec) (tn : Nat) (a b : List UInt8) (l l2 : List (List UInt8)) (s t : List UInt8) (p i : Nat) (r : Rec) (lv : List (List Nat)) : Prop where
  la : a.length <= 2000
  lb : b.length <= 2000
  pa : splitB a = some (l ++ [s])
  pb : splitB b = some (l2 ++ [t])
  ne : a ≠ b
  out : withinB b a = true
  dir : dirT K T l = .ok p
  at_ : (T p)[i]? = some r
  name : r.s = s
structure DeepT (K : Nat -> Nat) (T : Nat -> List Rec) (tn : Nat) (a b : List UInt8) (l l2 : List (List UInt8)) (s t : List UInt8) (p i : Nat) (r : Rec) (lv : List (List Nat)) : Prop where
  la : a.length <= 2000
  lb : b.length <= 2000
  pa : splitB a = some (l ++ [s])
  pb : splitB b = some (l2 ++ [t])
  ne : a ≠ b
  out : withinB b a = false
  dir : dirT K T l = .ok p
  at_ : (T p)[i]? = some r
  name : r.s = s
  lvok : LvOk K T tn r.id lv
  few : lv.length <= 200
  fit : 8 <= l2.length + 1 + lv.length
end
section
variable {rs fb hb xb N dd lim : Nat} {P P' : (Nat -> List Int) -> Nat -> Prop} {K : Nat -> Nat} {T : Nat -> List Rec} {w0 w w' : World}
end
end Go.Proofs.YtpofmiecjkghgaaGreatDoor
