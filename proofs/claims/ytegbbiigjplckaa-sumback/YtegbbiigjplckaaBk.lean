/- SumBack answers true, whatever it is given, and changes nothing that was there. -/
import Derived.Test.YtegbbiigjplckaaLa
import Derived.Test.YtegbbiigjplckaaCv
namespace Go.Proofs.Ytegbbiigjplckaa
open Go.RowKit
set_option maxRecDepth 100000

theorem Try.infoU64 : (Try.prog.info? 24).map (fun i => (i.zero, i.size, i.bytes)) = some (some (.int .u64 0), 1, 8) := by kernel_rfl
theorem make_seen (w : World) : ∃ C : Array Value, C.size = 256 ∧ (Instr.makeSlice 28 (.int .i64 256) (.int .i64 256)).run Try.prog w = .ok (.slice (some ⟨w.heap.size, 0, none⟩) 256 256) (w.alloc (.cells C 24)) := by
  obtain ⟨i0, hi, hz0, hz1, hz2⟩ := info_parts Try.infoU64
  have h := run_makeSlice (P := Try.prog) (w := w) 28 24 i0 (.int .u64 0) Try.underlying28 hi hz0 .i64 .i64 256 256 (by omega) (by omega) (by rw [hz1]; decide) (by rw [hz2]; decide) (by omega)
  rw [hz1] at h
  exact ⟨madeCells (Value.int .u64 0).cells 256, size_madeCells _ _, h⟩
/-- What is told of the first k bytes lies there. -/
def SeenAt (g : Nat) (D : Int) (k : Nat) (w : World) : Prop := ∃ C : Array Value, w.heap[g]? = some (.cells C 24 (0, 0)) ∧ C.size = 256 ∧ ∀ j, j < k → C[j]? = some (.int .u64 (fnvStep D j))
theorem SeenAt.below {g : Nat} {D : Int} {k : Nat} {w w' : World} (h : SeenAt g D k w) (hg : g < w.heap.size) (hb : Below w.heap.size w w') : SeenAt g D k w' := by
  obtain ⟨C, h1, h2, h3⟩ := h
  exact ⟨C, (hb.block g hg).trans h1, h2, h3⟩
theorem SeenAt.cell {g : Nat} {D : Int} {k : Nat} {w : World} (h : SeenAt g D k w) {j : Nat} (hj : j < k) : w.cell? ⟨g, j, none⟩ = some (.int .u64 (fnvStep D j)) := by
  obtain ⟨C, h1, h2, h3⟩ := h
  rw [← h3 j hj]; simp [World.cell?, h1]
theorem SeenAt.any {g : Nat} {D : Int} {k : Nat} {w : World} (h : SeenAt g D k w) {j : Nat} (hj : j < 256) : ∃ v, w.cell? ⟨g, j, none⟩ = some v := by
  obtain ⟨C, h1, h2, h3⟩ := h
  exact ⟨C[j], by simp [World.cell?, h1, h2, hj]⟩
theorem SeenAt.free {g : Nat} {D : Int} {k : Nat} {w : World} (h : SeenAt g D k w) (j : Nat) : w.frozen? ⟨g, j, none⟩ = false := by
  obtain ⟨C, h1, _, _⟩ := h
  simp [World.frozen?, h1]
theorem SeenAt.put {g : Nat} {D : Int} {k : Nat} {w : World} (h : SeenAt g D k w) (hk : k < 256) : SeenAt g D (k + 1) (w.setCell ⟨g, k, none⟩ (.int .u64 (fnvStep D k))) := by
  obtain ⟨C, h1, h2, h3⟩ := h
  refine ⟨C.setIfInBounds k (.int .u64 (fnvStep D k)), ?_, by simpa using h2, fun j hj => ?_⟩
  · simp [World.setCell, Array.getElem?_modify, h1]
  · rw [Array.getElem?_setIfInBounds]
    by_cases e : k = j
    · subst e; rw [if_pos rfl, if_pos (by omega)]
    · rw [if_neg e]; exact h3 j (by omega)

set_option maxHeartbeats 2000000 in
theorem sumBack_calls (w : World) (v : Value) (zs : List Int) (h : BytesAt w v zs) :
    Calls Try.prog 4 #[v] w fun e w' => e = .returned (.bool true) ∧ Below w.heap.size w w' := by
  have hh := hidden h
  obtain ⟨a, cap, rfl, hr, hm, _, _⟩ := h
  replace hr := hidden hr
  replace hm := hidden hm
  by_cases hlen : zs.length ≤ 300
  · have hlen' : ¬ ((zs.length : Int) > 300) := by omega
    clear hlen
    obtain ⟨C, hC, hmk⟩ := make_seen w
    have hC' := hidden hC
    clear hC
    go_enter Try.func4, Try.ntmps4
    go_wp2_with fail
    go_loopg [4] 256 (fun g i wr => ∃ k : Nat, k ≤ 256 ∧ g = 256 - k ∧ (∃ q : Int, i = .int .i64 q ∧ q = (k : Int)) ∧ SeenAt w.heap.size (fnv fnv0 zs) k wr ∧ w.heap.size < wr.heap.size ∧ Below w.heap.size w wr)
    case atStart => exact ⟨0, by omega, rfl, ⟨0, rfl, rfl⟩, ⟨C, by show (w.heap.push _)[w.heap.size]? = _; simp, hC'.out, fun j hj => by omega⟩, by simp, (Below.refl _ _).alloc (Nat.le_refl _) _⟩
    case round =>
      obtain ⟨k, hk, hg, ⟨q, rfl, hq⟩, hS, hlt, hB⟩ := hrel
      have hq0 : 0 ≤ q := by omega
      by_cases hk2 : k < 256
      · have hq1 : q < 256 := by omega
        have ewr : IntKind.u8.wrap q = q := by simp [IntKind.wrap, IntKind.bits, IntKind.signed]; omega
        obtain rfl : k = q.toNat := by omega
        have hqq := hidden hq
        replace hg := hidden hg
        replace hS := hidden hS
        replace hk2 := hidden hk2
        clear hq hk hmk
        go_wp2_with fail
        refine (parts_two wr _ zs q (hh.out.below hB) ⟨hq0, by omega⟩).mono ?_
        rintro ev w1 ⟨rfl, hB1⟩
        have hS1 := hidden (hS.out.below hlt hB1)
        have hs1 := hB1.size
        obtain ⟨x, hcell⟩ := hS1.out.any hk2.out
        have hfz := hS1.out.free q.toNat
        have hB2 : Below w.heap.size w w1 := hB.trans (hB1.mono (Nat.le_of_lt hlt))
        have hS2 := hidden (hS1.out.put hk2.out)
        have eq2 : fnvStep (fnv fnv0 zs) ((q.toNat : Nat) : Int) = fnvStep (fnv fnv0 zs) q := by rw [← hqq.out]
        rw [eq2] at hS2
        clear hB hB1
        go_upto_region 8 with fail
        have hB3 : Below w.heap.size w (w1.setCell ⟨w.heap.size, q.toNat, none⟩ (.int .u64 (fnvStep (fnv fnv0 zs) q))) := hB2.setCell (Nat.le_refl _) _
        have hs3 : w.heap.size < (w1.setCell ⟨w.heap.size, q.toNat, none⟩ (.int .u64 (fnvStep (fnv fnv0 zs) q))).heap.size := by simp [World.setCell]; omega
        clear hcell hfz hS1 hB2 eq2
        generalize w1.setCell ⟨w.heap.size, q.toNat, none⟩ (.int .u64 (fnvStep (fnv fnv0 zs) q)) = w2 at hS2 hB3 hs3 ⊢
        clear hs1
        go_wp2_with fail
        go_loopg [5] q.toNat (fun g i wx => ∃ j : Nat, j ≤ q.toNat ∧ g = q.toNat - j ∧ (∃ r : Int, i = .int .i64 r ∧ r = (j : Int)) ∧ Below w2.heap.size w2 wx)
        case atStart => exact ⟨0, by omega, rfl, ⟨0, rfl, rfl⟩, Below.refl _ _⟩
        case round =>
          obtain ⟨j, hj, hg2, ⟨r, rfl, hr2⟩, hBx⟩ := hrel
          have hr0 : 0 ≤ r := by omega
          by_cases hjq : j < q.toNat
          · have hrq : r < q := by omega
            have hr256 : r < 256 := by omega
            obtain rfl : j = r.toNat := by omega
            have hSx := hS2.out.below hs3 hBx
            have c1 := hSx.cell (j := r.toNat) (by omega)
            have c2 := hSx.cell (j := q.toNat) (by omega)
            have e1 : fnvStep (fnv fnv0 zs) ((r.toNat : Nat) : Int) = fnvStep (fnv fnv0 zs) r := by rw [← hr2]
            have e2 : fnvStep (fnv fnv0 zs) ((q.toNat : Nat) : Int) = fnvStep (fnv fnv0 zs) q := by rw [← hqq.out]
            rw [e1] at c1
            rw [e2] at c2
            have hne : (fnvStep (fnv fnv0 zs) r == fnvStep (fnv fnv0 zs) q) = false := by
              rw [step_same _ r q (fnv_range fnv0 (by decide) zs) ⟨hr0, by omega⟩ ⟨hq0, by omega⟩]
              exact beq_eq_false_iff_ne.2 (by omega)
            have hall := hidden (And.intro hj (And.intro hg2 (And.intro hr2 hjq)))
            clear e1 e2 hj hg2 hr2 hjq hSx
            go_upto_region 11 with fail
            go_quiet (fail)
            go_wp2
            go_roundg (q.toNat - (r.toNat + 1))
            case measure => obtain ⟨hj, hg2, hr2, hjq⟩ := hall.out; rw [hg2]; omega
            case rel =>
              obtain ⟨hj, hg2, hr2, hjq⟩ := hall.out
              exact ⟨r.toNat + 1, hjq, rfl, ⟨_, rfl, by omega⟩, hBx.trans ⟨rfl, rfl, rfl, Nat.le_refl _, fun _ _ => rfl⟩⟩
          · have hrq : ¬ r < q := by omega
            clear hj hg2 hr2 hjq
            go_wp2
            go_roundg (256 - (q.toNat + 1))
            case measure => have := hk2.out; rw [hg.out]; omega
            case rel =>
              have := hk2.out
              exact ⟨q.toNat + 1, by omega, rfl, ⟨_, rfl, by omega⟩, hS2.out.below hs3 hBx, Nat.lt_of_lt_of_le hs3 hBx.size, hB3.trans (hBx.mono (Nat.le_of_lt hs3))⟩
      · have hq1 : ¬ q < 256 := by omega
        clear hq hk hg hk2 hmk
        go_wp2_with fail
        refine (awake_calls wr).mono ?_
        rintro ev w1 ⟨rfl, hB1⟩
        go_wp2
        go_ret
        exact ⟨rfl, hB.trans (hB1.mono (Nat.le_of_lt hlt))⟩
  · have hlen' : (zs.length : Int) > 300 := by omega
    clear hlen
    go_enter Try.func4, Try.ntmps4
    go_wp2_with fail
    refine (awake_calls w).mono ?_
    rintro ev w1 ⟨rfl, hB⟩
    go_wp2
    go_ret
    exact ⟨rfl, hB⟩
end Go.Proofs.Ytegbbiigjplckaa
