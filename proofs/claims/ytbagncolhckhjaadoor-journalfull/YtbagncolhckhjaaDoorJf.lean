/- JournalFull answers true, whatever it is given, and changes nothing that was there. -/
import Derived.Test.YtbagncolhckhjaaDoorJf1
import Derived.Test.YtbagncolhckhjaaDoorJf2
import Derived.Test.YtbagncolhckhjaaDoorJf3
import Derived.Test.YtbagncolhckhjaaDoorJf4
namespace Go.Proofs.YtbagncolhckhjaaDoor
open Go.RowKit Go.Extern.Stop Go.Stop Go.Extern

theorem journalFull_calls (m0 kind : Int) (w : World) (hG : Ground w) (hGT : GT w) :
    Calls Tryd.prog 4 #[.int .i64 m0, .int .i64 kind] w fun e w' => e = .returned (.bool true) ∧ Below w.heap.size w w' := by
  have h0 : 0 ≤ bits .and .i64 kind 3 := (and_low kind 3 (by decide)).1
  have h1 : bits .and .i64 kind 3 ≤ 3 := (and_low kind 3 (by decide)).2
  rcases (by omega : bits .and .i64 kind 3 = 0 ∨ bits .and .i64 kind 3 = 1 ∨ bits .and .i64 kind 3 = 2 ∨ bits .and .i64 kind 3 = 3) with h | h | h | h
  · exact journalFull_k0 m0 kind h w hG hGT
  · exact journalFull_k1 m0 kind h w hG hGT
  · exact journalFull_k2 m0 kind h w hG hGT
  · exact journalFull_k3 m0 kind h w hG hGT
end Go.Proofs.YtbagncolhckhjaaDoor
