/- fault's watch for rings: of a Fault that does not bear the mark it says no; the Faults of one chain are all unlike. -/
import Derived.Test.YtiaplgdplenedaaDoorJn
import Derived.Test.YtiaplgdplenedaaDoorAp
import Derived.LaidEqlPtr
import Derived.Deep.QuietTactic
import Derived.BigQuiet
namespace Go.Proofs.YtiaplgdplenedaaDoor
open Go.RowKit Go.Extern.Stop Go.Stop Go.Extern
set_option maxRecDepth 100000

/-- Two chains from one error down to one bottom that is no Fault have one length. -/
theorem Chain.same {w : World} {bot : Value} (hbot : ∀ b, bot ≠ flt b) : ∀ (l1 l2 : List (ByteArray × ByteArray)) (e : Value), Chain w l1 bot e → Chain w l2 bot e → l1.length = l2.length
  | [], [], _, _, _ => rfl
  | [], (_, _) :: _, _, h1, h2 => by
    obtain ⟨b, e', he, _⟩ := h2
    have h1 : _ = bot := h1
    exact absurd (h1.symm.trans he) (hbot b)
  | (_, _) :: _, [], _, h1, h2 => by
    obtain ⟨b, e', he, _⟩ := h1
    have h2 : _ = bot := h2
    exact absurd (h2.symm.trans he) (hbot b)
  | (_, _) :: r1, (_, _) :: r2, _, h1, h2 => by
    obtain ⟨b1, e1, he1, _, _, _, _, c1, hr1⟩ := h1
    obtain ⟨b2, e2, he2, _, _, _, _, c2, hr2⟩ := h2
    have hb : b1 = b2 := by simpa using he1.symm.trans he2
    subst hb
    have he : e1 = e2 := Option.some.inj (c1.symm.trans c2)
    subst he
    simp [Chain.same hbot r1 r2 e1 hr1 hr2]

theorem Tryd.sizeFault : (Tryd.prog.info? 45).map (·.size) = some 3 := by kernel_rfl

/-- The watch as it lies at block 'br'. -/
structure Watch (br : Nat) (mk : Option Addr) (w : World) : Prop where
  mark : w.cell? ⟨br, 0, none⟩ = some (.pointer mk)
  steps : ∃ q, w.cell? ⟨br, 1, none⟩ = some (.int .i64 q)
  free0 : w.frozen? ⟨br, 0, none⟩ = false
  free1 : w.frozen? ⟨br, 1, none⟩ = false
theorem Watch.apart {br : Nat} {mk : Option Addr} {w w' : World} {bs : List Nat} (h : Watch br mk w) (ha : Apart bs w w') (hn : br ∉ bs) : Watch br mk w' := by
  have hlt : br < w.heap.size := lt_of_cell (a := ⟨br, 0, none⟩) h.mark
  obtain ⟨q, hq⟩ := h.steps
  exact ⟨(ha.cell (p := ⟨br, 0, none⟩) hlt hn).trans h.mark, ⟨q, (ha.cell (p := ⟨br, 1, none⟩) hlt hn).trans hq⟩, (ha.frozen (p := ⟨br, 0, none⟩) hlt hn).trans h.free0, (ha.frozen (p := ⟨br, 1, none⟩) hlt hn).trans h.free1⟩

/-- Where a block holds plain cells. -/
abbrev Solid (w : World) (b : Nat) : Prop := ∃ cs t, w.heap[b]? = some (.cells cs t (0, 0))
theorem Tryd.eqFaults (b : Nat) (mk : Option Addr) (w : World) (hb : Solid w b) (hm : mk = none ∨ ∃ m, mk = some ⟨m, 0, none⟩ ∧ m ≠ b ∧ Solid w m) :
    (binOp .eql 43 (.pointer (some ⟨b, 0, none⟩)) (.pointer mk)).run Tryd.prog w = .ok (.bool false) w := by
  obtain ⟨j, hj, hjs⟩ := Option.map_eq_some_iff.1 Tryd.sizeFault
  obtain ⟨cs, t, hcs⟩ := hb
  rcases hm with rfl | ⟨m, rfl, hne, cs', t', hcs'⟩
  · exact run_eql_pointer_nil w _ _ (by kernel_rfl)
  · exact run_eql_ptr_other w Tryd.underlying43 hj (by rw [hjs]; decide) (by intro h; exact hne (congrArg Addr.block h).symm) hcs hcs'

set_option maxHeartbeats 1000000 in
theorem closed_no (br b : Nat) (mk : Option Addr) (w : World) (h : Watch br mk w) (hb : Solid w b) (hm : mk = none ∨ ∃ m, mk = some ⟨m, 0, none⟩ ∧ m ≠ b ∧ Solid w m) :
    Calls Tryd.prog 27 #[.pointer (some ⟨br, 0, none⟩), .pointer (some ⟨b, 0, none⟩)] w fun e w' => e = .returned (.bool false) ∧ Apart [br] w w' ∧ ∃ mk', (mk' = mk ∨ mk' = some ⟨b, 0, none⟩) ∧ Watch br mk' w' := by
  have heq := Tryd.eqFaults b mk w hb hm
  clear hm hb
  obtain ⟨h0, ⟨q, h1⟩, f0, f1⟩ := h
  go_enter Tryd.func27, Tryd.ntmps27
  go_wp2_with fail
  have g0 : (w.setCell ⟨br, 1, none⟩ (.int .i64 (wrap64 (q + 1)))).cell? ⟨br, 0, none⟩ = some (.pointer mk) := (World.cell?_setCell_other _ _ _ _ (by intro h; simp at h)).trans h0
  have g1 : (w.setCell ⟨br, 1, none⟩ (.int .i64 (wrap64 (q + 1)))).cell? ⟨br, 1, none⟩ = some (.int .i64 (wrap64 (q + 1))) := World.cell?_setCell_same' _ _ _ (by rw [h1]; rfl)
  have k0 : (w.setCell ⟨br, 1, none⟩ (.int .i64 (wrap64 (q + 1)))).frozen? ⟨br, 0, none⟩ = false := by simp [f0]
  have k1 : (w.setCell ⟨br, 1, none⟩ (.int .i64 (wrap64 (q + 1)))).frozen? ⟨br, 1, none⟩ = false := by simp [f1]
  have hA : Apart [br] w (w.setCell ⟨br, 1, none⟩ (.int .i64 (wrap64 (q + 1)))) := (Apart.refl _ _).setCell (by simp) _
  clear h0 h1 f0 f1 heq
  generalize w.setCell ⟨br, 1, none⟩ (.int .i64 (wrap64 (q + 1))) = w1 at g0 g1 k0 k1 hA ⊢
  generalize wrap64 (q + 1) = q1 at g1 ⊢
  go_quiet (fail)
  go_wp2
  · go_ret
    refine ⟨rfl, (hA.drewN nq).setCell (p := ⟨br, 0, none⟩) (by simp) _, some ⟨b, 0, none⟩, Or.inr rfl, World.cell?_setCell_same' _ _ _ ?_, ⟨q1, (World.cell?_setCell_other _ _ _ _ (by intro h; simp at h)).trans ?_⟩, ?_, ?_⟩
    · show (w1.cell? ⟨br, 0, none⟩).isSome = true
      rw [g0]; rfl
    · exact g1
    · simp [k0]
    · simp [k1]
  · go_ret
    exact ⟨rfl, hA.drewN nq, mk, Or.inl rfl, g0, ⟨q1, g1⟩, k0, k1⟩
end Go.Proofs.YtiaplgdplenedaaDoor
