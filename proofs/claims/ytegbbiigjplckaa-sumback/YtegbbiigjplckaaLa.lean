/- SumLast answers true, whatever it is given, and changes nothing that was there. -/
import Derived.Test.YtegbbiigjplckaaFv
namespace Go.Proofs.Ytegbbiigjplckaa
open Go.RowKit
set_option maxRecDepth 100000

/-- Parts of a row and one byte behind it. -/
theorem two_parts (w : World) (v : Value) (zs : List Int) (x : Int) (h : BytesAt w v zs) (hx : 0 ≤ x ∧ x ≤ 255) :
    PartsAt ((w.alloc (.cells #[.int .u8 x] 5)).alloc (.cells #[v, .slice (some ⟨w.heap.size, 0, none⟩) 1 1] 22)) (.slice (some ⟨w.heap.size + 1, 0, none⟩) 2 2) [zs, [x]] := by
  have h1 : (w.alloc (.cells #[.int .u8 x] 5)).heap.size = w.heap.size + 1 := by simp
  rw [← h1]
  refine PartsAt.new (w.alloc (.cells #[.int .u8 x] 5)) [v, .slice (some ⟨w.heap.size, 0, none⟩) 1 1] [zs, [x]] (by simp [maxLen]) ?_
  intro k hk
  match k, hk with
  | 0, _ => exact ⟨_, rfl, h.below ((Below.refl _ _).alloc (Nat.le_refl _) _)⟩
  | 1, _ => exact ⟨_, rfl, BytesAt.new w [x] 1 (0, 0) (by intro y hy; obtain rfl := List.mem_singleton.1 hy; exact hx) (by simp [maxLen])⟩

theorem parts_two (w : World) (v : Value) (zs : List Int) (x : Int) (h : BytesAt w v zs) (hx : 0 ≤ x ∧ x ≤ 255) :
    Calls Try.prog 10 #[.slice (some ⟨w.heap.size + 1, 0, none⟩) 2 2] ((w.alloc (.cells #[.int .u8 x] 5)).alloc (.cells #[v, .slice (some ⟨w.heap.size, 0, none⟩) 1 1] 22)) fun e w' => e = .returned (.int .u64 (fnvStep (fnv fnv0 zs) x)) ∧ Below w.heap.size w w' := by
  refine (parts_calls [zs, [x]] _ _ (two_parts w v zs x h hx)).mono ?_
  rintro ev w1 ⟨rfl, rfl⟩
  have f1 : [zs, [x]].flatten = zs ++ [x] := by simp
  rw [f1, fnv_snoc]
  exact ⟨rfl, ((Below.refl _ _).alloc (Nat.le_refl _) _).alloc (by simp) _⟩
theorem step_same (n x y : Int) (hn : 0 ≤ n ∧ n < 18446744073709551616) (hx : 0 ≤ x ∧ x ≤ 255) (hy : 0 ≤ y ∧ y ≤ 255) : (fnvStep n x == fnvStep n y) = (x == y) := by
  by_cases e : x = y
  · subst e; simp
  · simp only [beq_eq_false_iff_ne.2 e, beq_eq_false_iff_ne.2 (fun h => e (fnvStep_back n x y hn hx hy h))]

set_option maxHeartbeats 1000000 in
theorem sumLast_calls (w : World) (v : Value) (zs : List Int) (x y : Int) (h : BytesAt w v zs) (hx : 0 ≤ x ∧ x ≤ 255) (hy : 0 ≤ y ∧ y ≤ 255) :
    Calls Try.prog 8 #[v, .int .u8 x, .int .u8 y] w fun e w' => e = .returned (.bool true) ∧ Below w.heap.size w w' := by
  have hh := hidden h
  obtain ⟨a, cap, rfl, hr, hm, _, _⟩ := h
  replace hr := hidden hr
  replace hm := hidden hm
  by_cases hlen : zs.length ≤ 5000
  · have hlen' : ¬ ((zs.length : Int) > 5000) := by omega
    replace hlen := hidden hlen
    go_enter Try.func8, Try.ntmps8
    go_wp2_with fail
    refine (parts_two w _ zs x hh.out hx).mono ?_
    rintro ev w1 ⟨rfl, hB1⟩
    have hs1 := hB1.size
    have hpq := step_same (fnv fnv0 zs) x y (fnv_range fnv0 (by decide) zs) hx hy
    generalize hp : fnvStep (fnv fnv0 zs) x = p at hpq ⊢
    replace hp := hidden hp
    replace hpq := hidden hpq
    go_wp2_with fail
    refine (parts_two w1 _ zs y (hh.out.below hB1) hy).mono ?_
    rintro ev w2 ⟨rfl, hB2⟩
    replace hB2 := hB1.trans (hB2.mono hs1)
    have hs2 := hB2.size
    replace hpq := hpq.out
    generalize fnvStep (fnv fnv0 zs) y = q at hpq ⊢
    have hown0 : OwnB (w2.alloc (.cells #[] 5)) w2.heap.size (.slice (some ⟨w2.heap.size, 0, none⟩) 0 0) [] :=
      ⟨rfl, Or.inr ⟨w2.heap.size, 0, #[], rfl, Nat.le_refl _, by show (w2.heap.push _)[w2.heap.size]? = _; simp, Nat.le_refl _, Nat.zero_le _, rfl, rfl⟩⟩
    have hBa : Below w.heap.size w (w2.alloc (.cells #[] 5)) := hB2.alloc hs2 _
    obtain ⟨v1, w3, ha1, hown1, hB3⟩ := append_bytes _ _ 22 _ _ [] zs hown0 (hh.out.below hBa) (by simp) (by have := hlen.out; simp; omega)
    have hs3 := hB3.size
    have hs3' : w2.heap.size + 1 ≤ w3.heap.size := by simpa using hs3
    replace hB3 := hBa.trans (hB3.mono hs2)
    rw [List.nil_append] at hown1
    have hown1' : OwnB (w3.alloc (.cells #[.int .u8 x] 5)) w2.heap.size v1 zs := World.ownsRow.alloc hown1 _
    obtain ⟨v2, w4, ha2, hown2, hB4⟩ := append_bytes _ _ 22 _ _ zs [x] hown1' (BytesAt.new w3 [x] 1 (0, 0) (by intro z hz; obtain rfl := List.mem_singleton.1 hz; exact hx) (by simp [maxLen])) (by simp; omega) (by have := hlen.out; simp; omega)
    have hB4' : Below w.heap.size w w4 := (hB3.alloc (by omega) _).trans (hB4.mono hs2)
    have hb2 := hidden (hown2.bytes (by
      intro z hz
      rcases List.mem_append.1 hz with hz | hz
      · exact hr.out z hz
      · obtain rfl := List.mem_singleton.1 hz; exact hx))
    clear hown0 hBa hown1 hown1' hown2 hB4 hs3 hB3
    replace ha1 := hidden ha1
    replace ha2 := hidden ha2
    go_wp2_with (first
      | (at_builtin; refine wpList_append_eq _ _ 22 rfl _ _ v1 w3 rfl rfl ha1.out rfl ?_)
      | (at_builtin; refine wpList_append_eq _ _ 22 rfl _ _ v2 w4 rfl rfl ha2.out rfl ?_)
      | (go_at_call 11; fail))
    refine (of_calls _ _ w4 hb2.out).mono ?_
    rintro ev w5 ⟨rfl, hw5⟩
    subst hw5
    rw [fnv_snoc, hp.out]
    go_wp2_with fail
    refine (awake_calls w5).mono ?_
    rintro ev w6 ⟨rfl, hB6⟩
    replace hB6 := hB4'.trans (hB6.mono hB4'.size)
    go_wp2
    go_ret
    exact ⟨rfl, hB6⟩
  · have hlen' : (zs.length : Int) > 5000 := by omega
    clear hlen
    go_enter Try.func8, Try.ntmps8
    go_wp2_with fail
    refine (awake_calls w).mono ?_
    rintro ev w1 ⟨rfl, hB⟩
    go_wp2
    go_ret
    exact ⟨rfl, hB⟩
end Go.Proofs.Ytegbbiigjplckaa
