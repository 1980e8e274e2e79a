/- The text of an Errno, whatever its number; the table of powers that the library reads for it. -/
import Derived.Test.YtiaplgdplenedaaDoorCh
import Derived.Lib.ItoaLen
import Derived.Lib.AppendIntMem
import Derived.WalkSmall
namespace Go.Proofs.YtiaplgdplenedaaDoor
open Go.RowKit Go.Extern.Stop Go.Stop Go.Extern
set_option maxRecDepth 100000

abbrev PT (w : World) : Prop := Lib.TabIs Tryd.prog w "internal/strconv.uint64pow10" .u64 Lib.pow10Tab
theorem ptGlobal : Tryd.prog.globalNamed "internal/strconv.uint64pow10" = some 1 := by kernel_rfl
theorem PT.below {w w' : World} (h : PT w) (hb : Below w.heap.size w w') : PT w' := by
  have hlt : 1 < w.heap.size := lt_of_cell (a := ⟨1, 0, none⟩) (Lib.TabIs.cell h ptGlobal 0 (by decide))
  exact var?_below hb ptGlobal hlt h

theorem errno_any (n : Int) (h0 : -9223372036854775808 ≤ n) (h1 : n ≤ 9223372036854775807) (w : World) (ht : PT w) :
    Calls Tryd.prog 19 #[.int .i64 n] w fun ev w' => ev = .returned (.string ⟨(errHead ++ Lib.itoa n).toArray⟩) ∧ Below w.heap.size w w' := by
  have hle := Lib.itoa_length_le n h0 h1
  have hI := hidden (Tryd.strconv_Itoa n h0 h1 w ht)
  clear ht h0 h1
  go_enter Tryd.func19, Tryd.ntmps19
  go_wp2_with fail
  refine (hI.out).mono ?_
  rintro ev w' ⟨rfl, k, os, rfl⟩
  go_wp2
  go_ret
  exact ⟨congrArg (fun s => Ending.returned (.string s)) (cat_bytes errHead (Lib.itoa n)), Lib.below_grow _ w (Nat.le_refl _) k os⟩
end Go.Proofs.YtiaplgdplenedaaDoor
