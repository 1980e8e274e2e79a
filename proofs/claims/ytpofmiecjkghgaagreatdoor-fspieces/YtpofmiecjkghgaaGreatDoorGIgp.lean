/- inode's wrong and about. -/
import Derived.Test.YtpofmiecjkghgaaGreatDoorGAnp
namespace Go.Proofs.YtpofmiecjkghgaaGreatDoor
open Go.RowKit Go.Extern.Stop Go.Stop Go.Extern Go.Shelf
set_option maxRecDepth 100000
theorem iwrong_nil (nm : ByteArray) (w : World) : Calls Tryz.prog 114 #[.string nm, .nilIface] w fun e w' => e = .returned .nilIface /\ w' = w := by
  go_enter Tryz.func114, Tryz.ntmps114
  go_wp2_with fail
  refine (wrap_nil _ _ _).mono ?_
  rintro ev w4 ⟨rfl, rfl⟩
  go_wp2
  go_ret
  exact ⟨rfl, rfl⟩
theorem about_nil (id : Int) (hi : i64 id) (w : World) (hG : Ground w) :
    Calls Tryz.prog 123 #[.int .i64 id, .nilIface] w fun e w' => e = .returned .nilIface /\ Below w.heap.size w w' := by
  have kI := hidden (itoa_below id hi hG (Below.refl _ _))
  replace hi := hidden hi
  generalize itoaB id = nm at kI
  go_enter Tryz.func123, Tryz.ntmps123
  go_wp2_with fail
  refine (kI.out).mono ?_
  rintro ev w1 ⟨rfl, hB⟩
  replace hB := hidden hB
  go_wp2_with fail
  refine (iwrong_nil _ _).mono ?_
  rintro ev w2 ⟨rfl, rfl⟩
  go_wp2
  go_ret
  exact ⟨rfl, hB.out⟩
theorem iWrite_calls {tb : Nat} {id : Int} (hi : i64 id) {at1 : Int} {v : Value} {w : World} {Q : World -> Prop} (hQ : ∀ w1 w2, Q w1 -> Below w1.heap.size w1 w2 -> Q w2) (hG : ∀ w1, Q w1 -> Ground w1)
    (kW : Calls Tryz.prog 125 #[ptr tb, .int .i64 id, .int .i64 at1, v] w fun e w' => e = .returned .nilIface /\ Q w') (hv : ∃ a L c, v = .slice a L c) :
    Calls Tryz.prog 66 #[ptr tb, .int .i64 id, .int .i64 at1, v] w fun e w' => e = .returned .nilIface /\ Q w' := by
  obtain ⟨a, L, c, rfl⟩ := hv
  replace kW := hidden kW
  replace hi := hidden hi
  go_enter Tryz.func66, Tryz.ntmps66
  go_wp2_with fail
  refine (kW.out).mono ?_
  rintro ev w1 ⟨rfl, hq⟩
  have kA := hidden (about_nil id hi.out w1 (hG _ hq))
  replace hq := hidden hq
  go_wp2_with fail
  refine (kA.out).mono ?_
  rintro ev w2 ⟨rfl, hB⟩
  have hE := hidden (hQ _ _ hq.out hB)
  clear hB
  go_wp2
  go_ret
  exact ⟨rfl, hE.out⟩
end Go.Proofs.YtpofmiecjkghgaaGreatDoor
