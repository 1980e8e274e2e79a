/- The document's own: options, and a whole entry. -/
import Derived.Test.YtfoamhkgdlebdaaGreatDoorX15
namespace Go.Proofs.YtfoamhkgdlebdaaGreatDoor
open Go.RowKit Go.Extern.Stop Go.Stop Go.Extern
set_option maxRecDepth 100000

theorem dw_len (l : List UInt8) (p : UInt8 → Bool) : (l.dropWhile p).length ≤ l.length := (List.dropWhile_suffix p).length_le
theorem trim_len (l : List UInt8) : (Lib.trimB l 32).length ≤ (Lib.trimRightB l 32).length := dw_len _ _
theorem trim_ref (x : List UInt8) : (Lib.trimB x 32 == x) = (x.isEmpty || (!(x.head? == some 32) && !(x.getLast? == some 32))) := by
  rcases List.eq_nil_or_concat x with rfl | ⟨l, z, rfl⟩
  · rfl
  · rw [List.concat_eq_append]
    by_cases hz : z = 32
    · subst hz
      have h1 : (Lib.trimRightB (l ++ [32]) 32).length ≤ l.length := by
        simp only [Lib.trimRightB, List.reverse_append, List.length_reverse]
        show (List.dropWhile (· == 32) (32 :: l.reverse)).length ≤ _
        rw [List.dropWhile_cons_of_pos (by rfl)]
        have := dw_len l.reverse (· == 32)
        simpa using this
      have h2 : (Lib.trimB (l ++ [32]) 32 == l ++ [32]) = false := by
        apply beq_eq_false_iff_ne.2
        intro e
        have e2 := congrArg List.length e
        have h3 := trim_len (l ++ [32])
        rw [e2, List.length_append] at h3
        simp at h3; omega
      rw [h2]; simp
    · have h1 : Lib.trimRightB (l ++ [z]) 32 = l ++ [z] := by
        simp only [Lib.trimRightB, List.reverse_append]
        show (List.dropWhile (· == 32) (z :: l.reverse)).reverse = _
        rw [List.dropWhile_cons_of_neg (by simpa using hz)]
        simp
      rw [Lib.trimB, h1, Lib.trimLeftB]
      cases l with
      | nil =>
        have : (List.dropWhile (· == 32) [z]) = [z] := List.dropWhile_cons_of_neg (by simpa using hz)
        simp [hz]
      | cons c r =>
        by_cases hc : c = 32
        · subst hc
          have h2 : (List.dropWhile (· == 32) (32 :: r ++ [z]) == 32 :: r ++ [z]) = false := by
            apply beq_eq_false_iff_ne.2
            intro e
            have e2 := congrArg List.length e
            rw [List.cons_append, List.dropWhile_cons_of_pos (by rfl)] at e2
            have := dw_len (r ++ [z]) (· == 32)
            rw [e2] at this
            simp at this
            omega
          rw [h2]; simp
        · have h2 : List.dropWhile (· == 32) (c :: r ++ [z]) = c :: r ++ [z] := by
            rw [List.cons_append, List.dropWhile_cons_of_neg (by simpa using hc)]
          rw [h2]
          have e1 : (c :: (r ++ [z])).getLast? = some z := by rw [← List.cons_append, List.getLast?_append]; rfl
          simp [hc, hz, e1]
theorem u8_32 (c : UInt8) : (((c.toNat : Nat) : Int) == 32) = (c == 32) := by
  by_cases e : c = 32
  · subst e; rfl
  · have : c.toNat ≠ 32 := fun e' => e (UInt8.toNat_inj.1 e')
    have h1 : (c == 32) = false := by simpa using e
    rw [h1]; simp; omega
theorem at_run (x : List UInt8) (k : Nat) (c : UInt8) (h : x[k]? = some c) (w : World) : (Instr.index 9 (.string (mkB x)) (.int .i64 (k : Int))).run Tryz.prog w = .ok (.int .u8 (c.toNat : Nat)) w := by
  have hk : k < x.length := (List.getElem?_eq_some_iff.1 h).1
  have hs : (mkB x).size = x.length := mk_size x
  have hg : (mkB x)[k]'(by rw [hs]; exact hk) = c := by
    have := (List.getElem?_eq_some_iff.1 h).2
    rw [← this]; rfl
  simp [go_sem, hs, hk, hg]
set_option maxHeartbeats 4000000 in
theorem refopt_calls (x : List UInt8) (w : World) : Calls Tryz.prog 36 #[.string (mkB x)] w fun e w' => e = .returned (.bool (optB x)) ∧ w' = w := by
  rw [optB, trim_ref]
  have hz : ((mkB x).size : Int) = (x.length : Int) := by rw [mk_size]
  have hE : (mkB x).toList.isEmpty = x.isEmpty := by rw [mk_toList]
  by_cases h1 : x.length ≤ 200
  · have h1' : (x.length : Int) ≤ 200 := by omega
    have kW := hidden (within_calls (mkB x) 32 126 (by rw [mk_size]; omega) w)
    rw [mk_list] at kW
    rw [decide_eq_true h1]
    have hpl : plainB x = x.all (inR 32 126) := rfl
    rw [hpl]
    generalize x.all (inR 32 126) = p at kW ⊢
    cases p
    · clear h1 hE
      generalize (x.length : Int) = n at *
      go_enter Tryz.func36, Tryz.ntmps36
      go_wp2_with (go_at_call 52; refine kW.out.mono ?_; rintro e w' ⟨rfl, rfl⟩)
      go_ret
      exact ⟨rfl, rfl⟩
    · cases hx : x with
      | nil =>
        subst hx
        have hE' : (mkB []).toList.isEmpty = true := by rw [mk_toList]; rfl
        clear hE h1
        go_enter Tryz.func36, Tryz.ntmps36
        go_wp2_with (go_at_call 52; refine kW.out.mono ?_; rintro e w' ⟨rfl, rfl⟩)
        go_ret
        exact ⟨rfl, rfl⟩
      | cons c r =>
        rw [← hx]
        have hne : x ≠ [] := by rw [hx]; simp
        have hE' : (mkB x).toList.isEmpty = false := by rw [hE, hx]; rfl
        obtain ⟨n, hn⟩ : ∃ n, x.length = n + 1 := ⟨r.length, by rw [hx]; rfl⟩
        obtain ⟨z, hzz⟩ : ∃ z, x[n]? = some z := ⟨_, List.getElem?_eq_getElem (by omega)⟩
        have r0 := first_run c r
        rw [← hx] at r0
        have r1 := at_run x n z hzz
        have e0 : x.head? = some c := by rw [hx]; rfl
        have e1 : x.getLast? = some z := by rw [List.getLast?_eq_getElem?, hn]; exact hzz
        have q0 := u8_32 c
        have q1 := u8_32 z
        rw [e0, e1, show x.isEmpty = false by rw [hx]; rfl]
        have f0 : (some c == some (32 : UInt8)) = (c == 32) := rfl
        have f1 : (some z == some (32 : UInt8)) = (z == 32) := rfl
        rw [f0, f1]
        generalize (c == 32) = b0 at q0 ⊢
        generalize (z == 32) = b1 at q1 ⊢
        have hw1 : ((n : Int) + 1) - 1 = (n : Int) := by omega
        rw [hn] at hz h1'
        clear hE h1 hzz e0 e1 f0 f1 hne hn hx hpl
        have hz' : ((mkB x).size : Int) = (n : Int) + 1 := by rw [hz]; rfl
        have h1'' : (n : Int) + 1 ≤ 200 := by have := h1'; omega
        clear hz h1'
        cases b0
        · have q0' : ¬ ((c.toNat : Nat) : Int) = 32 := by simpa using q0
          clear q0
          cases b1
          · have q1' : ¬ ((z.toNat : Nat) : Int) = 32 := by simpa using q1
            clear q1
            go_enter Tryz.func36, Tryz.ntmps36
            go_wp2_with (go_at_call 52; refine kW.out.mono ?_; rintro e w' ⟨rfl, rfl⟩)
            go_ret
            exact ⟨by simp [q0', q1'], rfl⟩
          · have q1' : ((z.toNat : Nat) : Int) = 32 := by simpa using q1
            clear q1
            go_enter Tryz.func36, Tryz.ntmps36
            go_wp2_with (go_at_call 52; refine kW.out.mono ?_; rintro e w' ⟨rfl, rfl⟩)
            go_ret
            exact ⟨rfl, rfl⟩
        · have q0' : ((c.toNat : Nat) : Int) = 32 := by simpa using q0
          clear q0
          go_enter Tryz.func36, Tryz.ntmps36
          go_wp2_with (go_at_call 52; refine kW.out.mono ?_; rintro e w' ⟨rfl, rfl⟩)
          go_ret
          exact ⟨rfl, rfl⟩
  · have h1' : ¬ (x.length : Int) ≤ 200 := by omega
    rw [decide_eq_false h1]
    clear h1 hE
    generalize (x.length : Int) = n at *
    go_enter Tryz.func36, Tryz.ntmps36
    go_wp2
    go_ret
    exact ⟨rfl, rfl⟩
end Go.Proofs.YtfoamhkgdlebdaaGreatDoor
