/- DirOf. -/
import Derived.Test.YtpofdffogkojdaaGreatDoorGDf
import Derived.Test.YtpofdffogkojdaaGreatDoorGIj
namespace Go.Proofs.YtpofdffogkojdaaGreatDoor
open Go.RowKit Go.Extern.Stop Go.Stop Go.Extern Go.Maps Go.Sort Go.Shelf
set_option maxRecDepth 100000

/-- What Of answers, by the number that the statement wants. -/
def OfAns (id : Int) (want : Int) (d r : Value) (w : World) : Prop := (want = 0 ∧ (∃ db, d = ptr db) ∧ r = .nilIface) ∨ (d = .pointer none ∧ ∃ b l, r = flt b ∧ Chain w ((sDir, itoaB id) :: l) (num want) (flt b) ∧ (want = 1 ∨ want = 14))
set_option maxHeartbeats 1500000 in
theorem dirOf_calls (id : Int) (hi : i64 id) (w : World) (hG : Ground w) (hGT : GT w) :
    Calls Tryz.prog 8 #[.int .i64 id] w fun e w' => e = .returned (.bool true) ∧ Below w.heap.size w w' := by
  have kM := hidden (made10_calls w hG)
  have kA := hidden (fun (wx : World) (hx : Below w.heap.size w wx) => awake10_calls wx (hG.below hx))
  have kGT := hidden (fun (wx : World) (hx : Below w.heap.size w wx) => hGT.below hx)
  have kN := hidden (fun (wx : World) => num_calls id hi wx)
  have kGr := hidden (fun (wx : World) (hx : Below w.heap.size w wx) => hG.below hx)
  clear hG hGT
  replace hi := hidden hi
  go_enter Tryz.func8, Tryz.ntmps8
  go_wp2_with fail
  refine (kM.out).mono ?_
  rintro ev w1 ⟨jb, cb, mb, ab, tb, db, rfl, ok, ⟨f, lim, h1, -⟩, -, -, hB1⟩
  have kK := S8.make ok.ok h1 1 (Or.inl rfl) 2 (by omega) (by show 2 ≤ 6; omega) (by simp [upd]) (fun i a b => by
    obtain rfl : i = 1 := by omega
    simp [upd])
  have hw0 : (te10 w jb cb mb ab tb).w0 = w := rfl
  have htb : (te10 w jb cb mb ab tb).tb = tb := rfl
  have htn : (te10 w jb cb mb ab tb).tn = 6 := rfl
  replace kK := hidden kK
  replace ok := hidden ok
  clear h1 kM
  go_wp2_with fail
  refine (kK.out).mono ?_
  rintro ev w2 ⟨rfl, h2, -⟩
  have hb2 : Below w.heap.size w w2 := by
    obtain ⟨mem, wr, M, N, q1, -⟩ := h2
    exact q1.c.sys.below
  have kO : ∃ want, (want = if id < 1 ∨ 6 < id then 1 else if id = 1 then 0 else 14) ∧ Calls Tryz.prog 39 #[ptr tb, .int .i64 id] w2 fun e w' => ∃ d r, e = .returned (.tuple #[d, r]) ∧ OfAns id want d r w' ∧ Below w2.heap.size w2 w' := by
    by_cases hr : id < 1 ∨ 6 < id
    · refine ⟨1, by rw [if_pos hr], (of_bad h2 id hi.out (by rw [htn]; omega)).mono ?_⟩
      rintro e w' ⟨b, rfl, hc, hB⟩
      exact ⟨_, _, rfl, Or.inr ⟨rfl, b, _, rfl, hc, Or.inl rfl⟩, hB⟩
    · obtain ⟨n, rfl⟩ : ∃ n : Nat, id = (n : Int) := ⟨id.toNat, by omega⟩
      by_cases h1 : n = 1
      · subst h1
        refine ⟨0, by rw [if_neg hr, if_pos (by simp)], (of_ok ok.out.ok h2 (id := 1) (by omega) (by rw [htn]; omega) (by simp [upd])).mono ?_⟩
        rintro e w' ⟨b, rfl, -, -, -, hB⟩
        exact ⟨_, _, rfl, Or.inl ⟨rfl, ⟨b, rfl⟩, rfl⟩, hB⟩
      · refine ⟨14, by rw [if_neg hr, if_neg (by omega)], (of_kind ok.out.ok h2 (id := n) (by omega) (by rw [htn]; omega) (by
          by_cases h2' : n = 2
          · simp [upd, h2']
          · simp [upd, h1, h2'])).mono ?_⟩
        rintro e w' ⟨b, rfl, hc, hB⟩
        exact ⟨_, _, rfl, Or.inr ⟨rfl, b, _, rfl, hc, Or.inr rfl⟩, hB⟩
  obtain ⟨want, hwant, kO⟩ := kO
  replace kO := hidden kO
  replace hb2 := hidden hb2
  clear kK h2
  go_wp2_with fail
  refine (kO.out).mono ?_
  rintro ev w3 ⟨d, r, rfl, hA, hB3⟩
  have hb3 := hb2.out.trans (hB3.mono hb2.out.size)
  have kL := hidden (of_nil (kGr.out _ hb3))
  replace hb3 := hidden hb3
  clear kO hB3 kGr
  by_cases c1 : id < 1
  · have hwv : want = 1 := by rw [hwant, if_pos (Or.inl c1)]
    rcases hA with ⟨hz, -⟩ | ⟨rfl, b, l, rfl, hc, -⟩
    · rw [hwv] at hz
      cases hz
    rw [hwv] at hc
    have hX := hidden hc
    clear hc hwv hwant
    go_wp2_with fail
    refine (kL.out).mono ?_
    rintro ev w4 ⟨bl, rfl, hcl, hB4⟩
    have hb4 := hb3.out.trans (hB4.mono hb3.out.size)
    have kU := hidden (law_num 1 w4 _ _ hcl (kGT.out _ hb4))
    have hX4 := hidden (hX.out.below hB4)
    replace hb4 := hidden hb4
    clear kL hcl hB4
    go_wp2_with fail
    refine (kU.out).mono ?_
    rintro ev w5 ⟨rfl, hB5⟩
    have hb5 := hidden (hb4.out.trans (hB5.mono hb4.out.size))
    have hX5 := hidden (hX4.out.below hB5)
    clear kU hB5
    go_wp2_with fail
    refine (kN.out _).mono ?_
    rintro ev w6 ⟨rfl, hw6⟩
    subst w6
    have kI := hidden (law_is 1 rfl w5 sDir (itoaB id) l (flt b) hX5.out (kGT.out _ hb5.out))
    generalize itoaB id = nm at *
    go_wp2_with fail
    refine (kI.out).mono ?_
    rintro ev w7 ⟨rfl, hB7⟩
    have hb7 := hidden (hb5.out.trans (hB7.mono hb5.out.size))
    have kW := hidden (kA.out _ hb7.out)
    clear kI hB7
    go_wp2_with fail
    refine (kW.out).mono ?_
    rintro ev w8 ⟨rfl, hB8⟩
    have hE := hidden (hb7.out.trans (hB8.mono hb7.out.size))
    clear hB8 kW
    go_wp2
    go_ret
    exact ⟨rfl, hE.out⟩
  · by_cases c2 : 6 < id
    · have hwv : want = 1 := by rw [hwant, if_pos (Or.inr c2)]
      rcases hA with ⟨hz, -⟩ | ⟨rfl, b, l, rfl, hc, -⟩
      · rw [hwv] at hz
        cases hz
      rw [hwv] at hc
      have hX := hidden hc
      clear hc hwv hwant
      go_wp2_with fail
      refine (kL.out).mono ?_
      rintro ev w4 ⟨bl, rfl, hcl, hB4⟩
      have hb4 := hb3.out.trans (hB4.mono hb3.out.size)
      have kU := hidden (law_num 1 w4 _ _ hcl (kGT.out _ hb4))
      have hX4 := hidden (hX.out.below hB4)
      replace hb4 := hidden hb4
      clear kL hcl hB4
      go_wp2_with fail
      refine (kU.out).mono ?_
      rintro ev w5 ⟨rfl, hB5⟩
      have hb5 := hidden (hb4.out.trans (hB5.mono hb4.out.size))
      have hX5 := hidden (hX4.out.below hB5)
      clear kU hB5
      go_wp2_with fail
      refine (kN.out _).mono ?_
      rintro ev w6 ⟨rfl, hw6⟩
      subst w6
      have kI := hidden (law_is 1 rfl w5 sDir (itoaB id) l (flt b) hX5.out (kGT.out _ hb5.out))
      generalize itoaB id = nm at *
      go_wp2_with fail
      refine (kI.out).mono ?_
      rintro ev w7 ⟨rfl, hB7⟩
      have hb7 := hidden (hb5.out.trans (hB7.mono hb5.out.size))
      have kW := hidden (kA.out _ hb7.out)
      clear kI hB7
      go_wp2_with fail
      refine (kW.out).mono ?_
      rintro ev w8 ⟨rfl, hB8⟩
      have hE := hidden (hb7.out.trans (hB8.mono hb7.out.size))
      clear hB8 kW
      go_wp2
      go_ret
      exact ⟨rfl, hE.out⟩
    · by_cases c3 : id = 1
      · have hwv : want = 0 := by rw [hwant, if_neg (by omega), if_pos c3]
        rcases hA with ⟨-, ⟨dx, rfl⟩, rfl⟩ | ⟨-, b, l, -, -, hz⟩
        · clear hwv hwant
          have c4 : ¬ id = 2 := by omega
          have c5 : ¬ (2 : Int) < id := by omega
          replace c3 := hidden c3
          go_wp2_with fail
          refine (kL.out).mono ?_
          rintro ev w4 ⟨bl, rfl, hcl, hB4⟩
          have hb4 := hb3.out.trans (hB4.mono hb3.out.size)
          have kU := hidden (law_num 1 w4 _ _ hcl (kGT.out _ hb4))
          replace hb4 := hidden hb4
          clear kL hcl hB4
          go_wp2_with fail
          refine (kU.out).mono ?_
          rintro ev w5 ⟨rfl, hB5⟩
          have hb5 := hidden (hb4.out.trans (hB5.mono hb4.out.size))
          clear kU hB5
          go_wp2_with fail
          refine (kN.out _).mono ?_
          rintro ev w6 ⟨rfl, hw6⟩
          subst w6
          have kI := hidden (law_is_nil sDir (itoaB id) w5)
          generalize itoaB id = nm at *
          go_wp2_with fail
          refine (kI.out).mono ?_
          rintro ev w7 ⟨rfl, hw7⟩
          have hB7 : Below w5.heap.size w5 w7 := by rw [hw7]; exact Below.refl _ _
          clear hw7
          have hb7 := hidden (hb5.out.trans (hB7.mono hb5.out.size))
          have kW := hidden (kA.out _ hb7.out)
          clear kI hB7
          go_wp2_with fail
          refine (kW.out).mono ?_
          rintro ev w8 ⟨rfl, hB8⟩
          have hE := hidden (hb7.out.trans (hB8.mono hb7.out.size))
          clear hB8 kW
          go_wp2
          go_ret
          exact ⟨rfl, hE.out⟩
        · rw [hwv] at hz
          exact absurd hz (by decide)
      · have hwv : want = 14 := by rw [hwant, if_neg (by omega), if_neg c3]
        rcases hA with ⟨hz, -⟩ | ⟨rfl, b, l, rfl, hc, -⟩
        · rw [hwv] at hz
          cases hz
        rw [hwv] at hc
        have hX := hidden hc
        clear hc hwv hwant
        by_cases c4 : id = 2
        · subst c4
          clear c1 c2 c3
          go_wp2_with fail
          refine (kL.out).mono ?_
          rintro ev w4 ⟨bl, rfl, hcl, hB4⟩
          have hb4 := hb3.out.trans (hB4.mono hb3.out.size)
          have kU := hidden (law_num 1 w4 _ _ hcl (kGT.out _ hb4))
          have hX4 := hidden (hX.out.below hB4)
          replace hb4 := hidden hb4
          clear kL hcl hB4
          go_wp2_with fail
          refine (kU.out).mono ?_
          rintro ev w5 ⟨rfl, hB5⟩
          have hb5 := hidden (hb4.out.trans (hB5.mono hb4.out.size))
          have hX5 := hidden (hX4.out.below hB5)
          clear kU hB5
          have kU2 := hidden (law_num 14 w5 _ _ hX5.out (kGT.out _ hb5.out))
          go_wp2_with fail
          refine (kU2.out).mono ?_
          rintro ev w6 ⟨rfl, hB6⟩
          have hb6 := hidden (hb5.out.trans (hB6.mono hb5.out.size))
          have hX6 := hidden (hX5.out.below hB6)
          clear kU2 hB6
          go_wp2_with fail
          refine (kN.out _).mono ?_
          rintro ev wz ⟨rfl, hwz⟩
          subst wz
          have kI := hidden (law_is 14 rfl _ sDir (itoaB 2) l (flt b) hX6.out (kGT.out _ hb6.out))
          generalize itoaB 2 = nm at *
          go_wp2_with fail
          refine (kI.out).mono ?_
          rintro ev w7 ⟨rfl, hB7⟩
          have hb7 := hidden (hb6.out.trans (hB7.mono hb6.out.size))
          have kW := hidden (kA.out _ hb7.out)
          clear kI hB7
          go_wp2_with fail
          refine (kW.out).mono ?_
          rintro ev w8 ⟨rfl, hB8⟩
          have hE := hidden (hb7.out.trans (hB8.mono hb7.out.size))
          clear hB8 kW
          go_wp2
          go_ret
          exact ⟨rfl, hE.out⟩
        · have c5 : (2 : Int) < id := by omega
          go_wp2_with fail
          refine (kL.out).mono ?_
          rintro ev w4 ⟨bl, rfl, hcl, hB4⟩
          have hb4 := hb3.out.trans (hB4.mono hb3.out.size)
          have kU := hidden (law_num 1 w4 _ _ hcl (kGT.out _ hb4))
          have hX4 := hidden (hX.out.below hB4)
          replace hb4 := hidden hb4
          clear kL hcl hB4
          go_wp2_with fail
          refine (kU.out).mono ?_
          rintro ev w5 ⟨rfl, hB5⟩
          have hb5 := hidden (hb4.out.trans (hB5.mono hb4.out.size))
          have hX5 := hidden (hX4.out.below hB5)
          clear kU hB5
          have kU2 := hidden (law_num 14 w5 _ _ hX5.out (kGT.out _ hb5.out))
          go_wp2_with fail
          refine (kU2.out).mono ?_
          rintro ev w6 ⟨rfl, hB6⟩
          have hb6 := hidden (hb5.out.trans (hB6.mono hb5.out.size))
          have hX6 := hidden (hX5.out.below hB6)
          clear kU2 hB6
          go_wp2_with fail
          refine (kN.out _).mono ?_
          rintro ev wz ⟨rfl, hwz⟩
          subst wz
          have kI := hidden (law_is 14 rfl _ sDir (itoaB id) l (flt b) hX6.out (kGT.out _ hb6.out))
          generalize itoaB id = nm at *
          go_wp2_with fail
          refine (kI.out).mono ?_
          rintro ev w7 ⟨rfl, hB7⟩
          have hb7 := hidden (hb6.out.trans (hB7.mono hb6.out.size))
          have kW := hidden (kA.out _ hb7.out)
          clear kI hB7
          go_wp2_with fail
          refine (kW.out).mono ?_
          rintro ev w8 ⟨rfl, hB8⟩
          have hE := hidden (hb7.out.trans (hB8.mono hb7.out.size))
          clear hB8 kW
          go_wp2
          go_ret
          exact ⟨rfl, hE.out⟩
end Go.Proofs.YtpofdffogkojdaaGreatDoor
