/- List, Hold, Stat refused. -/
import Derived.Test.YtleafmdjhmnjmaaGreatDoorGWpf
import Derived.Test.YtleafmdjhmnjmaaGreatDoorGWgf
import Derived.Test.YtleafmdjhmnjmaaGreatDoorGXif
import Derived.Test.YtleafmdjhmnjmaaGreatDoorGXff
import Derived.Test.YtleafmdjhmnjmaaGreatDoorGXaf
import Derived.Test.YtleafmdjhmnjmaaGreatDoorGXdf
import Derived.Test.YtleafmdjhmnjmaaGreatDoorGWmf
import Derived.Test.YtleafmdjhmnjmaaGreatDoorGWcf
import Derived.Test.YtleafmdjhmnjmaaGreatDoorGWqf
namespace Go.Proofs.YtleafmdjhmnjmaaGreatDoor
open Go.RowKit Go.Extern.Stop Go.Stop Go.Extern Go.Maps Go.Sort Go.Shelf
set_option maxRecDepth 100000
section
variable {fb rs hb : Nat} {E : TE} {w w' : World} {K : Nat -> Nat} {D : Nat -> List Int} {T : Nat -> List Rec} {f u lim : Nat}
end
section
variable {fb rs hb : Nat} {E : TE} {w w' : World} {K : Nat -> Nat} {D : Nat -> List Int} {T : Nat -> List Rec} {f u lim : Nat}
end
section
variable {fb rs hb : Nat} {E : TE} {w w' : World} {K : Nat -> Nat} {D : Nat -> List Int} {T : Nat -> List Rec} {f u lim : Nat}
end
theorem KeptT.keep {base : Nat} {w w' : World} {v : Value} {l : List (List UInt8)} {bs : List Nat} (h : KeptT base w v l) (ha : Apart bs w w') (hlt : ∀ k ∈ bs, k < base) : KeptT base w' v l := by
  refine ⟨h.row.1, ?_⟩
  rcases h.row.2 with h0 | ⟨g, cap, cur, hv, h1, hh, rest⟩
  · exact Or.inl h0
  · have hg : g < w.heap.size := by
      rcases Nat.lt_or_ge g w.heap.size with h | h
      · exact h
      · rw [Array.getElem?_eq_none h] at hh; cases hh
    exact Or.inr ⟨g, cap, cur, hv, h1, (ha.block g hg (fun hm => by have := hlt g hm; omega)).trans hh, rest⟩
section
variable {fb rs hb : Nat} {E : TE} {w w' : World} {K : Nat -> Nat} {D : Nat -> List Int} {T : Nat -> List Rec} {f u lim : Nat}
end
section
variable {fb rs hb : Nat} {E : TE} {w w' : World} {K : Nat -> Nat} {D : Nat -> List Int} {T : Nat -> List Rec} {f u lim : Nat}
end
set_option maxRecDepth 1000000
section
variable {fb rs hb : Nat} {E : TE} {w w' : World} {K : Nat -> Nat} {D : Nat -> List Int} {T : Nat -> List Rec} {f u lim : Nat}
structure EnterT (K : Nat -> Nat) (T : Nat -> List Rec) (tn : Nat) (a b : List UInt8) (l l2 : List (List UInt8)) (s t : List UInt8) (p q i : Nat) (r : Rec) (lv : List (List Nat)) : Prop where
  la : a.length <= 2000
  lb : b.length <= 2000
  pa : splitB a = some (l ++ [s])
  pb : splitB b = some (l2 ++ [t])
  ne : a ≠ b
  out : withinB b a = false
  dir : dirT K T l = .ok p
  dir2 : dirT K T l2 = .ok q
  at_ : (T p)[i]? = some r
  name : r.s = s
  no : lookT (T q) t = none
  lvok : LvOk K T tn r.id lv
  fit : l2.length + 1 + lv.length <= 7
  few : (T q).length < 120
  oth : q ≠ p
  lne : l ≠ l2
end
set_option maxRecDepth 100000
section
variable {fb rs hb : Nat} {E : TE} {w w' : World} {K : Nat -> Nat} {D : Nat -> List Int} {T : Nat -> List Rec} {f u lim : Nat}
end
end Go.Proofs.YtleafmdjhmnjmaaGreatDoor
