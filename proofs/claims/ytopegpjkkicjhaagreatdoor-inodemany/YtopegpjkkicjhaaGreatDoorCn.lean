/- The Cache's New. -/
import Derived.Test.YtopegpjkkicjhaaGreatDoorCa4
namespace Go.Proofs.YtopegpjkkicjhaaGreatDoor
open Go.RowKit Go.Extern.Stop Go.Stop Go.Extern Go.Maps
set_option maxRecDepth 100000
/-- A new row of bytes that a literal makes. -/
theorem lit_bytes (w : World) (zs : List Int) (hr : ∀ z ∈ zs, 0 ≤ z ∧ z ≤ 255) (hl : zs.length ≤ 1000) (fz : Nat × Nat) : BytesAt (w.alloc (.cells (zs.map (Value.int .u8)).toArray 5 fz)) (.slice (some ⟨w.heap.size, 0, none⟩) zs.length zs.length) zs :=
  ⟨_, _, rfl, hr, by unfold maxLen; omega, fun e => (by cases e), fun _ => ⟨w.heap.size, 0, rfl, by simp, fun k hk => by
    rw [Nat.zero_add]
    rw [cell_of_row _ _ _ _ _ _ (heap_alloc_new w _), List.getElem?_toArray, getD_map hk]⟩⟩
section
variable {w0 : World} {d g n jb cb mb at_ most : Nat} {blocks : Int} {mem : Nat → Int} {writes left : Int} {M : Chg} {w w' : World}
theorem cnew_nil (blocks : Int) (hb : i64 blocks) (w : World) (hG : Ground w) :
    Calls Tryz.prog 57 #[.pointer none, .int .i64 blocks] w fun e w' => ∃ b, e = .returned (.tuple #[.pointer none, flt b]) ∧ Chain w' [(sCache, itoaB blocks)] (num 1) (flt b) ∧ Below w.heap.size w w' := by
  have hC := hidden (cwrong_some blocks hb w hG [] (num 1) _ _ rfl)
  clear hG
  go_enter Tryz.func57, Tryz.ntmps57
  go_wp2_with fail
  refine (hC.out).mono ?_
  rintro ev w2 ⟨b, rfl, hc, -, hB⟩
  have hE := hidden (And.intro hc hB)
  clear hc hB
  go_wp2
  go_ret2
  exact ⟨b, rfl, hE.out⟩
theorem cnew_calls (h : Sys w0 d g n mem writes left w) (hj : JAt jb d at_ most w) (hjd : jb ≠ d ∧ jb ≠ g) (blocks : Int) (hb : 1 ≤ blocks) :
    Calls Tryz.prog 57 #[ptr jb, .int .i64 blocks] w fun e w' => e = .returned (.tuple #[ptr (w.heap.size + 1), .nilIface]) ∧ CSt w0 d g n jb (w.heap.size + 1) w.heap.size at_ most blocks mem writes left [] w' ∧ Below w.heap.size w w' := by
  have hmm := @run_makeMap Tryz.prog
  have hB0 : Below w.heap.size w (w.alloc (.map #[] 0)) := (Below.refl _ _).alloc (Nat.le_refl _) _
  have hm0 := mapAt_new w
  have hB1 : Below (w.alloc (.map #[] 0)).heap.size (w.alloc (.map #[] 0)) ((w.alloc (.map #[] 0)).alloc (.cells #[ptr jb, .int .i64 blocks, .map (some w.heap.size)] 80)) := (Below.refl _ _).alloc (Nat.le_refl _) _
  have hl := h.disk.lt
  have hjl := hj.lt
  have hs : w0.heap.size ≤ w.heap.size := h.below.size
  have hE : CSt w0 d g n jb (w.heap.size + 1) w.heap.size at_ most blocks mem writes left [] ((w.alloc (.map #[] 0)).alloc (.cells #[ptr jb, .int .i64 blocks, .map (some w.heap.size)] 80)) :=
    ⟨(h.more hB0).more hB1, (hj.below hB0).below hB1, ⟨by simp, by simp, by simp⟩, hm0.below hB1, hjd, by omega, by omega, by omega, hs⟩
  have hE2 := hidden (And.intro hE (hB0.trans (hB1.mono (by simp))))
  clear h hj hB0 hB1 hm0 hE hl hjl hs
  have hb' : ¬ blocks < 1 := by omega
  go_enter Tryz.func57, Tryz.ntmps57
  go_wp2
  go_ret2
  exact ⟨by simp, hE2.out⟩
end
end Go.Proofs.YtopegpjkkicjhaaGreatDoor
