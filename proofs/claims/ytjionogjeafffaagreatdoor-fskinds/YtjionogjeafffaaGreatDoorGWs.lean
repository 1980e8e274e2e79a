/- FsSizes: a Put of the one file, whether it is there or not; one that is too long. -/
import Derived.Test.YtjionogjeafffaaGreatDoorGXf
import Derived.Test.YtjionogjeafffaaGreatDoorGXi
import Derived.Test.YtjionogjeafffaaGreatDoorCards
import Derived.Test.YtjionogjeafffaaGreatDoorTie
import Derived.Test.YtjionogjeafffaaGreatDoorGW
import Derived.SliceStrings
import Derived.WalkKit
import Derived.ProofKit
import Derived.OpenShut
import Derived.LaidHandle
import Derived.Deep.DeepHandedRow
import Derived.Lib.LaidTab
namespace Go.Proofs.YtjionogjeafffaaGreatDoor
open Go.RowKit Go.Extern.Stop Go.Stop Go.Extern Go.Maps Go.Sort Go.Shelf
set_option maxRecDepth 100000

/-- The file system of FsSizes: no file, or /a with these bytes. -/
def SzSt (fb hb : Nat) (E : TE) (lim : Nat) (w : World) : Option (List Int) → Prop
  | none => Fsz fb 0 hb E rootK (fun _ => []) (fun _ => []) 113 lim w
  | some zs => ∃ (D : Nat → List Int) (f : Nat), D 2 = zs ∧ (f : Int) + blk (zs.length : Int) = 112 ∧ Fsz fb 0 hb E aK1 D aT1 f lim w
section
variable {fb rs hb : Nat} {E : TE} {w w' : World} {K : Nat → Nat} {D : Nat → List Int} {T : Nat → List Rec} {f u lim : Nat}
theorem SzSt.below {o : Option (List Int)} (h : SzSt fb hb E lim w o) (hB : Below w.heap.size w w') : SzSt fb hb E lim w' o := by
  cases o with
  | none => exact Fsz.below h hB
  | some zs =>
    obtain ⟨D, f, h1, h2, h3⟩ := h
    exact ⟨D, f, h1, h2, h3.below hB⟩
theorem SzSt.lts {o : Option (List Int)} (h : SzSt fb hb E lim w o) : E.Ahead w.heap.size ∧ fb < w.heap.size ∧ Below E.w0.heap.size E.w0 w := by
  cases o with
  | none => exact ⟨(show Fsz fb 0 hb E rootK (fun _ => []) (fun _ => []) 113 lim w from h).s.to.lts, (show Fsz fb 0 hb E rootK (fun _ => []) (fun _ => []) 113 lim w from h).at_.lt, (show Fsz fb 0 hb E rootK (fun _ => []) (fun _ => []) 113 lim w from h).s.to.below⟩
  | some zs =>
    obtain ⟨D, f, h1, h2, h3⟩ := h
    exact ⟨h3.s.to.lts, h3.at_.lt, h3.s.to.below⟩
end
end Go.Proofs.YtjionogjeafffaaGreatDoor
/- FsSizes, cut into declarations: what they share. -/
namespace Go.Proofs.YtjionogjeafffaaGreatDoor
open Go.RowKit Go.Extern.Stop Go.Stop Go.Extern Go.Maps Go.Sort Go.Shelf
set_option maxRecDepth 100000

/-- The region of that number. -/
def regionAt (n : Nat) : Code → Option Code
  | .region m o d => if m = n then some (.region m o d) else none
  | .block _ c => regionAt n c
  | .loop c => regionAt n c
  | .seq a b => match regionAt n a with
    | some c => some c
    | none => regionAt n b
  | .scope c => regionAt n c
  | .cond _ a b => match regionAt n a with
    | some c => some c
    | none => regionAt n b
  | _ => none
/-- What holds between two calls of FsSizes. -/
structure SzR (fb hb xb : Nat) (E : TE) (lim : Nat) (o : Option (List Int)) (w : World) : Prop where
  st : SzSt fb hb E lim w o
  no : HNo fb hb E w
  x1 : w.cell? ⟨xb, 1, none⟩ = some (ptr fb)
  xn : xb ≠ E.d ∧ xb ≠ E.g ∧ xb ≠ E.mb ∧ xb ≠ fb
  tn : E.tn = 10
  k : E.k = 113
section
variable {fb hb xb : Nat} {E : TE} {lim lim' : Nat} {o o' : Option (List Int)} {w w' : World}
theorem SzR.below (h : SzR fb hb xb E lim o w) (hB : Below w.heap.size w w') : SzR fb hb xb E lim o w' := ⟨h.st.below hB, h.no.below hB, (hB.cell (p := ⟨xb, 1, none⟩) (lt_of_cell (a := ⟨xb, 1, none⟩) h.x1)).trans h.x1, h.xn, h.tn, h.k⟩
theorem SzR.turn (h : SzR fb hb xb E lim o w) (hT : E.Turns fb w w') (hst : SzSt fb hb E.rest lim' w' o') : SzR fb hb xb E.rest lim' o' w' :=
  ⟨hst, ⟨(h.no.turns hT).no, h.no.ne⟩, (hT.cell (p := ⟨xb, 1, none⟩) (lt_of_cell (a := ⟨xb, 1, none⟩) h.x1) (by have := h.xn; simp; omega)).trans h.x1, h.xn, h.tn, h.k⟩
end
/-- The statement's own cell. -/
def XSz (xb fb : Nat) (w : World) : Prop := w.cell? ⟨xb, 1, none⟩ = some (ptr fb)
theorem XSz.out {xb fb : Nat} {w : World} (h : XSz xb fb w) : w.cell? ⟨xb, 1, none⟩ = some (ptr fb) := h
/-- What region 13 reads. -/
structure SzT (xb fb rb sb B : Nat) (bv : Value) (zs : List Int) (f c n : Int) (w : World) : Prop where
  x : w.cell? ⟨xb, 1, none⟩ = some (ptr fb)
  r : RmAt w rb f 0 c 113
  s : InAt w sb false n 0
  b : OwnV B w bv zs
  l : B ≤ rb ∧ B ≤ sb
theorem SzT.below {xb fb rb sb B : Nat} {bv : Value} {zs : List Int} {f c n : Int} {w w' : World} (h : SzT xb fb rb sb B bv zs f c n w) (hB : Below w.heap.size w w') : SzT xb fb rb sb B bv zs f c n w' := ⟨(hB.cell (p := ⟨xb, 1, none⟩) (lt_of_cell (a := ⟨xb, 1, none⟩) h.x)).trans h.x, h.r.below hB, h.s.below hB, h.b.keep (Apart.of_below (bs := []) hB) (by simp), h.l⟩
theorem SzT.turn {xb fb rb sb B : Nat} {bv : Value} {zs : List Int} {f c n : Int} {w w' : World} {bs : List Nat} (h : SzT xb fb rb sb B bv zs f c n w) (hA : Apart bs w w') (hlow : ∀ k ∈ bs, k < B) (hx : xb ∉ bs) : SzT xb fb rb sb B bv zs f c n w' := ⟨(hA.cell (p := ⟨xb, 1, none⟩) (lt_of_cell (a := ⟨xb, 1, none⟩) h.x) hx).trans h.x, h.r.keep hA (fun hm => by have := hlow _ hm; have := h.l; omega), h.s.keep hA (fun hm => by have := hlow _ hm; have := h.l; omega), h.b.keep hA hlow, h.l⟩
section
variable {fb hb xb : Nat} {E : TE} {lim lim' : Nat} {zs : List Int} {w w' : World}
end
section
variable {fb hb xb : Nat} {E : TE} {lim : Nat} {o : Option (List Int)} {w : World}
theorem SzR.ground (h : SzR fb hb xb E lim o w) : Ground w := by
  cases o with
  | none => exact (show Fsz fb 0 hb E rootK (fun _ => []) (fun _ => []) 113 lim w from h.st).s.to.ground
  | some zs =>
    obtain ⟨D, f, h1, h2, h3⟩ := h.st
    exact h3.s.to.ground
end
theorem XSz.below {xb fb : Nat} {w w' : World} (h : XSz xb fb w) (hB : Below w.heap.size w w') : XSz xb fb w' := (hB.cell (p := ⟨xb, 1, none⟩) (lt_of_cell (a := ⟨xb, 1, none⟩) h)).trans h
end Go.Proofs.YtjionogjeafffaaGreatDoor
/- What each row of this seat lists, as the walks use it, and one memory that meets it. -/
namespace Go.Proofs.YtjionogjeafffaaGreatDoor
open Go.ChangeShapes Go.WideShapes Go.ChangeAt Go.RowKit

theorem own : ownKnob Tryz.prog.godebug = none := by kernel_rfl
theorem etGlobal : Tryz.prog.globalNamed "errors.errorType" = some 0 := by kernel_rfl
theorem rtType : (Tryz.prog.cutTypes.find? (·.1 == "internal/reflectlite.rtype")).map (·.2) = some 159 := by kernel_rfl
theorem oneError : ((List.range 385).filter fun t => Tryz.prog.rowNamed t [101, 114, 114, 111, 114]) = [32] := by kernel_rfl
theorem typesSize : Tryz.prog.types.size = 385 := by kernel_rfl

/-- The one variable of the library that a walk reads: its cell. -/
theorem handle_of_laid {W : World} (h : laidMetH Tryz.prog Rows.fsFormatsRow.laid W) : GT W := by
  have h' : _ ∧ handlesMet Tryz.prog [("errors.errorType", Rows.laid_errors_errorType)] W := h
  obtain ⟨name, u, ty, e1, e2, e3, e4, e5⟩ := h'.2 _ (List.mem_singleton.2 rfl)
  have en : name = [101, 114, 114, 111, 114] := (Option.some.inj e1).symm
  subst en
  obtain rfl := Option.some.inj (rtType.symm.trans e2)
  have hm : ty ∈ (List.range 385).filter fun t => Tryz.prog.rowNamed t [101, 114, 114, 111, 114] := List.mem_filter.2 ⟨List.mem_range.2 (by rw [← typesSize]; exact e3), e4⟩
  rw [oneError] at hm
  obtain rfl := List.mem_singleton.1 hm
  have hh : typeHandle Tryz.prog 32 = hdl 32 := by kernel_rfl
  rw [hh] at e5
  simpa using World.var?_cell etGlobal e5 0

/-- The numbers of a table as cells. -/
def numsOf : DataW Unit → Array Value
  | .agg l => (l.map fun d => match d with | .lit (.int k n) => Value.int k n | _ => .nilIface).toArray
  | _ => #[]
/-- A memory whose listed variables hold what the rows list. -/
def layWorld (w : World) : World :=
  { w with heap := (((w.heap.modify 0 fun
      | .cells _ t frozen => .cells #[typ 32] t frozen
      | o => o).modify 2 fun
      | .cells _ t frozen => .cells (numsOf Rows.laid_internal_strconv_uint64pow10) t frozen
      | o => o).modify 3 fun
      | .cells _ t frozen => .cells (numsOf Rows.laid_math_bits_deBruijn32tab) t frozen
      | o => o).modify 4 fun
      | .cells _ t frozen => .cells (numsOf Rows.laid_math_bits_deBruijn64tab) t frozen
      | o => o }
theorem lay_met (os : Os) (args : Array Value) : laidMetH Tryz.prog Rows.fsFormatsRow.laid ((layWorld (World.holding Tryz.prog os ⟨#[], #[], []⟩)).forCall (fun _ _ => 0) ⟨#[], args, []⟩).memory :=
  laidMetH_of_parts (laidMet_of_run' 8 (by kernel_rfl) (by kernel_rfl)) (by kernel_rfl)
theorem laidMet_tail {P : Program} {x : String × DataW Unit} {l : List (String × DataW Unit)} {W : World} (h : laidMet P (x :: l) W) : laidMet P l W := by
  obtain ⟨ps, ⟨g, t, cs, fuel, p, q, h1, h2, h3, h4, hr, rfl⟩, hnd, hall⟩ := h
  exact ⟨q, hr, (List.nodup_append.1 hnd).2.1, fun b off hm => hall b off (List.mem_append_right _ hm)⟩
theorem ptType : (Tryz.prog.globals[2]?).map (·.type) = some 332 := by kernel_rfl
theorem ptCells : Tryz.prog.cellsOf 332 = 20 := by kernel_rfl
theorem u64Cells : Tryz.prog.cellsOf 295 = 1 := by kernel_rfl
/-- The table of powers, as the row lists it. -/
theorem table_of_laid {W : World} (h : laidMetH Tryz.prog Rows.fsFormatsRow.laid W) : PT W := by
  have h' : laidMet Tryz.prog [("math/bits.deBruijn32tab", Rows.laid_math_bits_deBruijn32tab), ("math/bits.deBruijn64tab", Rows.laid_math_bits_deBruijn64tab), ("internal/strconv.uint64pow10", Rows.laid_internal_strconv_uint64pow10)] W ∧ _ := h
  exact Lib.tabIs_of_head (zs := Lib.pow10Tab) (rest := []) ptGlobal ptType Tryz.underlying332 Tryz.underlying295 u64Cells ptCells (laidMet_tail (laidMet_tail h'.1))

theorem ground_of_laid {W : World} (h : laidMetH Tryz.prog Rows.fsFormatsRow.laid W) : Ground W :=
  ⟨table_of_laid h, (table_of_laid h).lt⟩
theorem wf_bounds {n : Int} (h : (Lit.int .i64 n).wf = true) : i64 n := by
  have h1 : IntKind.i64.min = -9223372036854775808 := by decide
  have h2 : IntKind.i64.max = 9223372036854775807 := by decide
  simp only [Lit.wf, Bool.and_eq_true, decide_eq_true_eq, h1, h2] at h
  exact h
theorem laidOut : laidOutB Tryz.prog = true := by kernel_rfl
end Go.Proofs.YtjionogjeafffaaGreatDoor
