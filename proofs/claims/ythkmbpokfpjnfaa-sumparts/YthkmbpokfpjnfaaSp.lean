/- SumParts answers true, whatever it is given, and changes nothing that was there. -/
import Derived.Test.YthkmbpokfpjnfaaCv
import Derived.Deep.DeepCutAuto
import Derived.WalkSmall
namespace Go.Proofs.Ythkmbpokfpjnfaa
open Go.RowKit
set_option maxRecDepth 100000

theorem BytesAt.sliced {w : World} {a : Option Addr} {cap : Nat} {zs : List Int} (h : BytesAt w (.slice a zs.length cap) zs) (hlc : zs.length ≤ cap) (l k : Nat) (hlk : l ≤ k) (hk : k ≤ zs.length) :
    BytesAt w (sliced a l k cap 1) ((zs.take k).drop l) := by
  obtain ⟨a', cap', he, hr, hm, hn, hc⟩ := h
  obtain ⟨rfl, -, rfl⟩ := Value.slice.inj he
  have hlen : ((zs.take k).drop l).length = k - l := by simp; omega
  refine ⟨_, _, by rw [hlen]; rfl, fun z hz => hr z (List.mem_of_mem_take (List.mem_of_mem_drop hz)), by rw [hlen]; omega, ?_, ?_⟩
  · intro h
    split at h
    · omega
    · have : a = none := by simpa using h
      have := hn this
      omega
  · intro hne
    have hlt : l < k := by
      rcases Nat.lt_or_ge l k with h | h
      · exact h
      · exact absurd (List.length_eq_zero_iff.1 (by rw [hlen]; omega)) hne
    obtain ⟨b, off, rfl, hb, hcell⟩ := hc (by intro h; rw [h] at hk; simp at hk; omega)
    refine ⟨b, off + l, ?_, hb, fun j hj => ?_⟩
    · rw [if_neg (by omega)]; simp [Addr.add]
    · rw [hlen] at hj
      rw [Nat.add_assoc, hcell (l + j) (by omega)]
      simp [List.getD, show l + j < k by omega]

theorem three_parts (zs : List Int) (i j : Nat) (hij : i ≤ j) : ((zs.take i).drop 0 ++ ((zs.take j).drop i ++ ((zs.take zs.length).drop j ++ []))) = zs := by
  simp only [List.drop_zero, List.append_nil, List.take_length]
  rw [← List.append_assoc, ← List.take_append_drop j zs]
  congr 1
  · rw [List.take_append_drop]
    have : zs.take i = (zs.take j).take i := by rw [List.take_take, Nat.min_eq_left hij]
    rw [this, List.take_append_drop]
  · rw [List.take_append_drop]

theorem tmod_nat (x : Int) (n : Nat) (hx : 0 ≤ x) : ∃ I : Nat, x.tmod ((n : Int) + 1) = (I : Int) ∧ I ≤ n := by
  refine ⟨_, (Int.toNat_of_nonneg (Int.tmod_nonneg _ hx)).symm, ?_⟩
  have h1 := Int.tmod_lt_of_pos x (b := (n : Int) + 1) (by omega)
  omega

/-- A call that answers a number and leaves the memory as it was. -/
structure Tells (f : FuncId) (v : Value) (wx : World) (D : Int) : Prop where
  out : Calls Try.prog f #[v] wx fun e w' => e = .returned (.int .u64 D) ∧ w' = wx

set_option maxHeartbeats 2000000 in
theorem sumParts_calls (zs : List Int) (v : Value) (x y : Int) (w : World) (h : BytesAt w v zs) (hlc : ∀ a n cap, v = .slice a n cap → n ≤ cap) :
    Calls Try.prog 3 #[v, .int .i64 x, .int .i64 y] w fun e w' => e = .returned (.bool true) ∧ Below w.heap.size w w' := by
  have hH := hidden h
  obtain ⟨a, cap, rfl, hr, hm, hn, hc⟩ := h
  have hcap := hlc _ _ _ rfl
  clear hr hn hc hlc
  by_cases hlen : zs.length ≤ 5000
  · have hl' : ¬ (5000 : Int) < (zs.length : Int) := by omega
    obtain ⟨I, hI, hIl⟩ := tmod_nat (bits .and .i64 x 65535) zs.length (and_low x 65535 (by decide)).1
    obtain ⟨J, hJ, hJl⟩ := tmod_nat (bits .and .i64 y 65535) zs.length (and_low y 65535 (by decide)).1
    have hn1 : (((zs.length : Int) + 1) == 0) = false := by simp; omega
    have hn2 : (zs.length : Int) + 1 ≠ 0 := by omega
    go_enter Try.func3, Try.ntmps3
    go_wp2_with fail
    go_quiet (fail)
    have F : ∀ P Q : Nat, P ≤ Q → Q ≤ zs.length → ∃ a1 n1 c1 a2 n2 c2 a3 n3 c3, (∀ wx, (Instr.slice 22 (.slice a zs.length cap) none (some (.int .i64 P)) none).run Try.prog wx = .ok (.slice a1 n1 c1) wx) ∧ (∀ wx, (Instr.slice 22 (.slice a zs.length cap) (some (.int .i64 P)) (some (.int .i64 Q)) none).run Try.prog wx = .ok (.slice a2 n2 c2) wx) ∧ (∀ wx, (Instr.slice 22 (.slice a zs.length cap) (some (.int .i64 Q)) none none).run Try.prog wx = .ok (.slice a3 n3 c3) wx) ∧
        ∀ wx, Below w.heap.size w wx → PartsAt (wx.alloc (.cells #[.slice a1 n1 c1, .slice a2 n2 c2, .slice a3 n3 c3] 22)) (.slice (some ⟨wx.heap.size, 0, none⟩) 3 3) [(zs.take P).drop 0, (zs.take Q).drop P, (zs.take zs.length).drop Q] := by
      intro P Q hPQ hQ
      have hsz : ∀ wx, (sizeOf (Try.prog.elem 22)).run Try.prog wx = .ok 1 wx := fun wx => by kernel_rfl
      refine ⟨if cap = 0 then a else a.map (·.add (0 * 1)), P - 0, cap - 0, if cap = P then a else a.map (·.add (P * 1)), Q - P, cap - P, if cap = Q then a else a.map (·.add (Q * 1)), zs.length - Q, cap - Q, fun wx => ?_, fun wx => ?_, fun wx => ?_, fun wx hB => ?_⟩
      · rw [run_slice_h wx _ _ _ _ (by kernel_rfl) _ _ (by omega) (by omega), hsz]; rfl
      · rw [run_slice_lh wx _ _ _ _ (by kernel_rfl) _ _ _ _ (by omega) (by omega) (by omega), hsz]; rfl
      · rw [run_slice_l wx _ _ _ _ (by kernel_rfl) _ _ (by omega) (by omega), hsz]; rfl
      · have hb := hH.out.below hB
        refine PartsAt.new wx [sliced a 0 P cap 1, sliced a P Q cap 1, sliced a Q zs.length cap 1] [(zs.take P).drop 0, (zs.take Q).drop P, (zs.take zs.length).drop Q] (by simp [maxLen]) fun k hk => ?_
        match k, hk with
        | 0, _ => exact ⟨_, rfl, hb.sliced hcap 0 P (by omega) (by omega)⟩
        | 1, _ => exact ⟨_, rfl, hb.sliced hcap P Q hPQ hQ⟩
        | 2, _ => exact ⟨_, rfl, hb.sliced hcap Q zs.length hQ (Nat.le_refl _)⟩
    replace F := hidden F
    rcases Nat.lt_or_ge J I with hIJ | hIJ
    · have ht : (J : Int) < (I : Int) := by omega
      obtain ⟨a1, n1, c1, a2, n2, c2, a3, n3, c3, s1, s2, s3, hp⟩ := F.out J I (Nat.le_of_lt hIJ) hIl
      replace hp := hidden hp
      go_upto_region 6 with fail
      have hB0 : Below w.heap.size w (w.drewN nq) := below_drewN (Below.refl _ _) nq
      have hH1 := hidden (hH.out.below hB0)
      generalize w.drewN nq = w1 at hB0 hH1 ⊢
      have ha : Below w.heap.size w w1.drew := hB0.drew
      have hb : Below w.heap.size w (w1.drew.alloc (.cells #[.slice a1 n1 c1, .slice a2 n2 c2, .slice a3 n3 c3] 22)) := ha.alloc ha.size _
      have hc : Below w.heap.size w ((w1.drew.alloc (.cells #[.slice a1 n1 c1, .slice a2 n2 c2, .slice a3 n3 c3] 22)).alloc (.cells #[.slice none 0 0, .slice a zs.length cap, .slice none 0 0] 22)) := hb.alloc hb.size _
      have cP1 : Calls Try.prog 10 #[.slice (some ⟨w1.heap.size, 0, none⟩) 3 3] (w1.alloc (.cells #[.slice a1 n1 c1, .slice a2 n2 c2, .slice a3 n3 c3] 22)).drew fun e w' => e = .returned (.int .u64 (fnv fnv0 zs)) ∧ w' = (w1.alloc (.cells #[.slice a1 n1 c1, .slice a2 n2 c2, .slice a3 n3 c3] 22)).drew := by
        have h := parts_calls _ _ _ (hp.out w1.drew ha)
        simp only [List.flatten_cons, List.flatten_nil] at h
        rw [three_parts zs _ _ (by omega)] at h
        exact h
      have cP2 : Calls Try.prog 10 #[.slice (some ⟨w1.heap.size + 1, 0, none⟩) 3 3] ((w1.alloc (.cells #[.slice a1 n1 c1, .slice a2 n2 c2, .slice a3 n3 c3] 22)).alloc (.cells #[.slice none 0 0, .slice a zs.length cap, .slice none 0 0] 22)).drew fun e w' => e = .returned (.int .u64 (fnv fnv0 zs)) ∧ w' = ((w1.alloc (.cells #[.slice a1 n1 c1, .slice a2 n2 c2, .slice a3 n3 c3] 22)).alloc (.cells #[.slice none 0 0, .slice a zs.length cap, .slice none 0 0] 22)).drew := by
        have h := parts_calls [[], zs, []] _ _ (PartsAt.new (w1.drew.alloc (.cells #[.slice a1 n1 c1, .slice a2 n2 c2, .slice a3 n3 c3] 22)) [.slice none 0 0, .slice a zs.length cap, .slice none 0 0] [[], zs, []] (by simp [maxLen]) (fun k hk => by
          match k, hk with
          | 0, _ => exact ⟨_, rfl, BytesAt.nil _⟩
          | 1, _ => exact ⟨_, rfl, hH.out.below hb⟩
          | 2, _ => exact ⟨_, rfl, BytesAt.nil _⟩))
        have e1 : ([[], zs, []] : List (List Int)).flatten = zs := by simp
        have e2 : (w1.drew.alloc (.cells #[.slice a1 n1 c1, .slice a2 n2 c2, .slice a3 n3 c3] 22)).heap.size = w1.heap.size + 1 := by simp
        rw [e1, e2] at h
        exact h
      have cP0 : ∀ wx, Calls Try.prog 10 #[.slice none 0 0] wx fun e w' => e = .returned (.int .u64 fnv0) ∧ w' = wx := fun wx => parts_calls [] _ wx (PartsAt.nil wx none 0)
      have cO0 : ∀ wx, Calls Try.prog 11 #[.slice none 0 0] wx fun e w' => e = .returned (.int .u64 fnv0) ∧ w' = wx := fun wx => of_calls [] _ wx (BytesAt.nil wx)
      have cO1 : Calls Try.prog 11 #[.slice a zs.length cap] (w1.alloc (.cells #[.slice a1 n1 c1, .slice a2 n2 c2, .slice a3 n3 c3] 22)).drew fun e w' => e = .returned (.int .u64 (fnv fnv0 zs)) ∧ w' = (w1.alloc (.cells #[.slice a1 n1 c1, .slice a2 n2 c2, .slice a3 n3 c3] 22)).drew := of_calls zs _ _ (hH.out.below hb)
      have cO2 : Calls Try.prog 11 #[.slice a zs.length cap] ((w1.alloc (.cells #[.slice a1 n1 c1, .slice a2 n2 c2, .slice a3 n3 c3] 22)).alloc (.cells #[.slice none 0 0, .slice a zs.length cap, .slice none 0 0] 22)).drew fun e w' => e = .returned (.int .u64 (fnv fnv0 zs)) ∧ w' = ((w1.alloc (.cells #[.slice a1 n1 c1, .slice a2 n2 c2, .slice a3 n3 c3] 22)).alloc (.cells #[.slice none 0 0, .slice a zs.length cap, .slice none 0 0] 22)).drew := of_calls zs _ _ (hH.out.below hc)
      have cA := awake_calls ((w1.alloc (.cells #[.slice a1 n1 c1, .slice a2 n2 c2, .slice a3 n3 c3] 22)).alloc (.cells #[.slice none 0 0, .slice a zs.length cap, .slice none 0 0] 22)).drew
      replace cP1 := Tells.mk cP1
      replace cP2 := Tells.mk cP2
      replace cP0 := fun wx => Tells.mk (cP0 wx)
      replace cO0 := fun wx => Tells.mk (cO0 wx)
      replace cO1 := Tells.mk cO1
      replace cO2 := Tells.mk cO2
      replace cA := hidden cA
      replace hc := hidden hc
      clear hp F hH hH1 ha hb hI hJ hn1 hn2
      generalize fnv fnv0 zs = D at cP1 cP2 cO1 cO2
      go_region_with (first
        | (go_at_call 10; refine (Tells.out (f := 10) (D := ?_) ?_).mono ?_; (any_goals (first | exact cP1 | exact cP2 | exact cP0 _)); rintro ev wz ⟨rfl, rfl⟩)
        | (go_at_call 11; refine (Tells.out (f := 11) (D := ?_) ?_).mono ?_; (any_goals (first | exact cO1 | exact cO2 | exact cO0 _)); rintro ev wz ⟨rfl, rfl⟩)
        | (go_at_call 9; refine (cA.out).mono ?_; rintro ev wz ⟨rfl, hBz⟩))
      all_goals (go_wp2_with fail)
      all_goals go_ret
      all_goals exact ⟨rfl, hc.out.trans (hBz.mono hc.out.size)⟩
    · have ht : ¬ (J : Int) < (I : Int) := by omega
      obtain ⟨a1, n1, c1, a2, n2, c2, a3, n3, c3, s1, s2, s3, hp⟩ := F.out I J hIJ hJl
      replace hp := hidden hp
      go_upto_region 6 with fail
      have hB0 : Below w.heap.size w (w.drewN nq) := below_drewN (Below.refl _ _) nq
      have hH1 := hidden (hH.out.below hB0)
      generalize w.drewN nq = w1 at hB0 hH1 ⊢
      have ha : Below w.heap.size w w1.drew := hB0.drew
      have hb : Below w.heap.size w (w1.drew.alloc (.cells #[.slice a1 n1 c1, .slice a2 n2 c2, .slice a3 n3 c3] 22)) := ha.alloc ha.size _
      have hc : Below w.heap.size w ((w1.drew.alloc (.cells #[.slice a1 n1 c1, .slice a2 n2 c2, .slice a3 n3 c3] 22)).alloc (.cells #[.slice none 0 0, .slice a zs.length cap, .slice none 0 0] 22)) := hb.alloc hb.size _
      have cP1 : Calls Try.prog 10 #[.slice (some ⟨w1.heap.size, 0, none⟩) 3 3] (w1.alloc (.cells #[.slice a1 n1 c1, .slice a2 n2 c2, .slice a3 n3 c3] 22)).drew fun e w' => e = .returned (.int .u64 (fnv fnv0 zs)) ∧ w' = (w1.alloc (.cells #[.slice a1 n1 c1, .slice a2 n2 c2, .slice a3 n3 c3] 22)).drew := by
        have h := parts_calls _ _ _ (hp.out w1.drew ha)
        simp only [List.flatten_cons, List.flatten_nil] at h
        rw [three_parts zs _ _ (by omega)] at h
        exact h
      have cP2 : Calls Try.prog 10 #[.slice (some ⟨w1.heap.size + 1, 0, none⟩) 3 3] ((w1.alloc (.cells #[.slice a1 n1 c1, .slice a2 n2 c2, .slice a3 n3 c3] 22)).alloc (.cells #[.slice none 0 0, .slice a zs.length cap, .slice none 0 0] 22)).drew fun e w' => e = .returned (.int .u64 (fnv fnv0 zs)) ∧ w' = ((w1.alloc (.cells #[.slice a1 n1 c1, .slice a2 n2 c2, .slice a3 n3 c3] 22)).alloc (.cells #[.slice none 0 0, .slice a zs.length cap, .slice none 0 0] 22)).drew := by
        have h := parts_calls [[], zs, []] _ _ (PartsAt.new (w1.drew.alloc (.cells #[.slice a1 n1 c1, .slice a2 n2 c2, .slice a3 n3 c3] 22)) [.slice none 0 0, .slice a zs.length cap, .slice none 0 0] [[], zs, []] (by simp [maxLen]) (fun k hk => by
          match k, hk with
          | 0, _ => exact ⟨_, rfl, BytesAt.nil _⟩
          | 1, _ => exact ⟨_, rfl, hH.out.below hb⟩
          | 2, _ => exact ⟨_, rfl, BytesAt.nil _⟩))
        have e1 : ([[], zs, []] : List (List Int)).flatten = zs := by simp
        have e2 : (w1.drew.alloc (.cells #[.slice a1 n1 c1, .slice a2 n2 c2, .slice a3 n3 c3] 22)).heap.size = w1.heap.size + 1 := by simp
        rw [e1, e2] at h
        exact h
      have cP0 : ∀ wx, Calls Try.prog 10 #[.slice none 0 0] wx fun e w' => e = .returned (.int .u64 fnv0) ∧ w' = wx := fun wx => parts_calls [] _ wx (PartsAt.nil wx none 0)
      have cO0 : ∀ wx, Calls Try.prog 11 #[.slice none 0 0] wx fun e w' => e = .returned (.int .u64 fnv0) ∧ w' = wx := fun wx => of_calls [] _ wx (BytesAt.nil wx)
      have cO1 : Calls Try.prog 11 #[.slice a zs.length cap] (w1.alloc (.cells #[.slice a1 n1 c1, .slice a2 n2 c2, .slice a3 n3 c3] 22)).drew fun e w' => e = .returned (.int .u64 (fnv fnv0 zs)) ∧ w' = (w1.alloc (.cells #[.slice a1 n1 c1, .slice a2 n2 c2, .slice a3 n3 c3] 22)).drew := of_calls zs _ _ (hH.out.below hb)
      have cO2 : Calls Try.prog 11 #[.slice a zs.length cap] ((w1.alloc (.cells #[.slice a1 n1 c1, .slice a2 n2 c2, .slice a3 n3 c3] 22)).alloc (.cells #[.slice none 0 0, .slice a zs.length cap, .slice none 0 0] 22)).drew fun e w' => e = .returned (.int .u64 (fnv fnv0 zs)) ∧ w' = ((w1.alloc (.cells #[.slice a1 n1 c1, .slice a2 n2 c2, .slice a3 n3 c3] 22)).alloc (.cells #[.slice none 0 0, .slice a zs.length cap, .slice none 0 0] 22)).drew := of_calls zs _ _ (hH.out.below hc)
      have cA := awake_calls ((w1.alloc (.cells #[.slice a1 n1 c1, .slice a2 n2 c2, .slice a3 n3 c3] 22)).alloc (.cells #[.slice none 0 0, .slice a zs.length cap, .slice none 0 0] 22)).drew
      replace cP1 := Tells.mk cP1
      replace cP2 := Tells.mk cP2
      replace cP0 := fun wx => Tells.mk (cP0 wx)
      replace cO0 := fun wx => Tells.mk (cO0 wx)
      replace cO1 := Tells.mk cO1
      replace cO2 := Tells.mk cO2
      replace cA := hidden cA
      replace hc := hidden hc
      clear hp F hH hH1 ha hb hI hJ hn1 hn2
      generalize fnv fnv0 zs = D at cP1 cP2 cO1 cO2
      go_region_with (first
        | (go_at_call 10; refine (Tells.out (f := 10) (D := ?_) ?_).mono ?_; (any_goals (first | exact cP1 | exact cP2 | exact cP0 _)); rintro ev wz ⟨rfl, rfl⟩)
        | (go_at_call 11; refine (Tells.out (f := 11) (D := ?_) ?_).mono ?_; (any_goals (first | exact cO1 | exact cO2 | exact cO0 _)); rintro ev wz ⟨rfl, rfl⟩)
        | (go_at_call 9; refine (cA.out).mono ?_; rintro ev wz ⟨rfl, hBz⟩))
      all_goals (go_wp2_with fail)
      all_goals go_ret
      all_goals exact ⟨rfl, hc.out.trans (hBz.mono hc.out.size)⟩
  · have hl' : (zs.length : Int) > 5000 := by omega
    go_enter Try.func3, Try.ntmps3
    go_wp2_with fail
    refine (awake_calls w).mono ?_
    rintro ev w1 ⟨rfl, hB⟩
    go_wp2
    go_ret
    exact ⟨rfl, hB⟩
end Go.Proofs.Ythkmbpokfpjnfaa
