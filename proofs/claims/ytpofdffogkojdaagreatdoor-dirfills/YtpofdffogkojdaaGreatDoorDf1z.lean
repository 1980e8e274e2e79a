/- DirFills. -/
import Derived.Test.YtpofdffogkojdaaGreatDoorDn0z
namespace Go.Proofs.YtpofdffogkojdaaGreatDoor
open Go.RowKit Go.Extern.Stop Go.Stop Go.Extern Go.Maps Go.Sort Go.Shelf
set_option maxRecDepth 100000

set_option maxHeartbeats 2000000 in
theorem dirFills_calls (zn za : Int) (w : World) (hG : Ground w) (hGT : GT w) :
    Calls Tryz.prog 7 #[.int .i64 zn, .int .i64 za] w fun e w' => e = .returned (.bool true) ∧ Below w.heap.size w w' := by
  have kM := hidden (made10_calls w hG)
  have kA := hidden (fun (wx : World) (hx : Below w.heap.size w wx) => awake10_calls wx (hG.below hx))
  have kGT := hidden (fun (wx : World) (hx : Below w.heap.size w wx) => hGT.below hx)
  clear hG hGT
  obtain ⟨m, hm, hm2⟩ : ∃ m : Nat, bits .and .i64 zn 15 = (m : Int) ∧ m ≤ 15 := by
    have : 0 ≤ bits .and .i64 zn 15 ∧ bits .and .i64 zn 15 ≤ 15 := and_low zn 15 (by omega)
    exact ⟨(bits .and .i64 zn 15).toNat, by have := this.1; omega, by omega⟩
  obtain ⟨a, ha, ha2⟩ : ∃ a : Nat, bits .and .i64 za 255 = (a : Int) ∧ a ≤ 255 := by
    have : 0 ≤ bits .and .i64 za 255 ∧ bits .and .i64 za 255 ≤ 255 := and_low za 255 (by omega)
    exact ⟨(bits .and .i64 za 255).toNat, by have := this.1; omega, by omega⟩
  obtain ⟨n, hn, hn1, hn2⟩ : ∃ n : Nat, (m : Int) + 112 = (n : Int) ∧ 112 ≤ n ∧ n ≤ 127 := ⟨m + 112, by omega, by omega, by omega⟩
  go_enter Tryz.func7, Tryz.ntmps7
  go_wp2_with fail
  refine (kM.out).mono ?_
  rintro ev w1 ⟨jb, cb, mb, ab, tb, db, rfl, ok, -, h1, hdb, hB1⟩
  have hw0 : (te10 w jb cb mb ab tb).w0 = w := rfl
  generalize te10 w jb cb mb ab tb = E at ok h1 hw0
  replace hw0 := hidden hw0
  replace ok := hidden ok
  replace h1 := hidden h1
  clear kM
  go_wp2_with fail
  go_loopg [7] 128 (fun gk q wr => ∃ i M : Nat, i ≤ n ∧ gk = 128 - i ∧ M = min i 120 ∧ q = .int .i64 i ∧ Hid (DL E db (rowP 102 M) wr))
  case atStart => exact ⟨0, 0, by omega, rfl, by omega, rfl, hidden h1.out⟩
  case round =>
    obtain ⟨i, M, hi, hgk, hM, rfl, hI⟩ := hrel
    replace hgk := hidden hgk
    clear h1
    by_cases hlt : i < n
    · have hlt' : (i : Int) < (n : Int) := by omega
      have kN := hidden (fun (wx : World) => num_calls (i : Int) ⟨by omega, by omega⟩ wx)
      have hcat := nm_join 102 i
      have hsz := nm_size (i := i) (by omega)
      have hok := (ok_fin ⟨i, by omega⟩).1
      generalize itoaB (i : Int) = TX at kN hcat hsz
      have hmod : (i : Int) % 200 = (i : Int) := by omega
      have hno := rowP_no (c := 102) (k := M) (i := i) (by omega) (by omega)
      replace hm := hidden hm
      replace hn := hidden hn
      replace ha := hidden ha
      by_cases hb : i < 120
      · obtain rfl : M = i := by omega
        have hb' : ¬ (120 : Int) ≤ (M : Int) := by omega
        have kP := hidden (fun (wx : World) (hx : wx = wr) => show Calls Tryz.prog 25 #[ptr db, .string (mkB (nmP 102 M)), .int .i64 ((M : Int) + 1)] wx _ from by
          subst hx
          have := dPut_ok hI.out ok.out (nmP 102 M) (M + 1) hok (by omega) (by omega) hno (by rw [rowP_len]; omega)
          rw [← rowP_succ, show ((M + 1 : Nat) : Int) = (M : Int) + 1 by omega] at this
          exact this)
        generalize nmP 102 M = NM at *
        replace hM := hidden hM
        go_wp2_with fail
        refine (kN.out _).mono ?_
        rintro ev w2 ⟨rfl, hw2⟩
        subst w2
        go_wp2_with fail
        refine (kP.out _ rfl).mono ?_
        rintro ev w3 ⟨rfl, h3, -⟩
        replace h3 := hidden h3
        clear kP hI
        go_wp2_with fail
        refine (law_is_nil sDir (mkB NM) w3).mono ?_
        rintro ev w4 ⟨rfl, hw4⟩
        subst w4
        go_wp2
        go_roundg (128 - (M + 1))
        case measure => rw [hgk.out]; omega
        case rel => exact ⟨M + 1, M + 1, by omega, rfl, by omega, by go_num, hidden h3.out⟩
      · obtain rfl : M = 120 := by omega
        have hb' : (120 : Int) ≤ (i : Int) := by omega
        have kP := hidden (show Calls Tryz.prog 25 #[ptr db, .string (mkB (nmP 102 i)), .int .i64 ((i : Int) + 1)] wr _ from by
          have := dPut_many hI.out ok.out (nmP 102 i) (i + 1) hok (by omega) (by omega) hno (by rw [rowP_len]; omega)
          rw [show ((i + 1 : Nat) : Int) = (i : Int) + 1 by omega] at this
          exact this)
        generalize nmP 102 i = NM at *
        replace hM := hidden hM
        go_wp2_with fail
        refine (kN.out _).mono ?_
        rintro ev w2 ⟨rfl, hw2⟩
        subst w2
        go_wp2_with fail
        refine (kP.out).mono ?_
        rintro ev w3 ⟨bk, rfl, hc, hB3⟩
        have h3 := hI.out.more hB3
        have kI := hidden (law_is 65 rfl w3 sDir (mkB NM) [] (flt bk) hc (kGT.out _ (h3.from hw0.out)))
        replace h3 := hidden h3
        clear kP hI hc hB3
        go_wp2_with fail
        refine (kI.out).mono ?_
        rintro ev w4 ⟨rfl, hB4⟩
        have h4 := hidden (h3.out.more hB4)
        clear kI h3 hB4
        go_wp2
        go_roundg (128 - (i + 1))
        case measure => rw [hgk.out]; omega
        case rel => exact ⟨i + 1, 120, by omega, rfl, by omega, by go_num, hidden h4.out⟩
    · obtain rfl : i = n := by omega
      have hnn : ¬ (i : Int) < (i : Int) := by omega
      have hM1 : 1 ≤ M := by omega
      have hM2 : M ≤ 120 := by omega
      have hmin : min (i : Int) 120 = (M : Int) := by omega
      replace hm := hidden hm
      replace hn := hidden hn
      clear hM
      obtain ⟨k, hk, hkM⟩ : ∃ k : Nat, (a : Int) % (M : Int) = (k : Int) ∧ k < M := ⟨a % M, by omega, Nat.mod_lt _ (by omega)⟩
      have hrow := hidden (rowP_get 102 hkM)
      have kN := hidden (fun (wx : World) => num_calls (k : Int) ⟨by omega, by omega⟩ wx)
      have hcat := nm_join 102 k
      have hsz := nm_size (i := k) (by omega)
      have hok := hidden (ok_fin ⟨k, by omega⟩).1
      generalize itoaB (k : Int) = TX at kN hcat hsz
      have kD := hidden (dDrop_ok hI.out ok.out hrow.out)
      have hnod := hidden (hI.out.g.nodup)
      have hlen0 := hidden (dropR_len (L := rowP 102 M) (i := k) (by rw [rowP_len]; exact hkM))
      rw [rowP_len] at hlen0
      have hmem := hidden (fun q => mem_dropR (q := q) hnod.out hrow.out)
      generalize hNM : nmP 102 k = NM at *
      replace hNM := hidden hNM
      clear hI
      go_wp2_with fail
      refine (kN.out _).mono ?_
      rintro ev w2 ⟨rfl, hw2⟩
      subst w2
      go_wp2_with fail
      refine (kD.out).mono ?_
      rintro ev w3 ⟨rfl, h3, -⟩
      have hnl : ∀ q ∈ dropR (rowP 102 M) k, q.s ≠ [108, 97, 115, 116] := fun q hq e => by
        have h2 := rowP_head q ((hmem.out q).1 hq).1
        rw [e] at h2
        cases h2
      have kP := hidden (show Calls Tryz.prog 25 #[ptr db, .string ⟨#[108, 97, 115, 116]⟩, .int .i64 7] w3 _ from dPut_ok h3 ok.out [108, 97, 115, 116] 7 (by decide) (by omega) (by omega) hnl (by rw [hlen0.out]; omega))
      clear kD h3 hnl
      go_wp2_with fail
      refine (kP.out).mono ?_
      rintro ev w4 ⟨rfl, h4, -⟩
      have kL := dLen_calls h4 ok.out
      have hl4 : (dropR (rowP 102 M) k ++ [(⟨[108, 97, 115, 116], 7⟩ : Rec)]).length = M := by rw [List.length_append, hlen0.out]; simp; omega
      rw [hl4] at kL
      replace kL := hidden kL
      replace h4 := hidden h4
      replace hl4 := hidden hl4
      clear kP
      go_wp2_with fail
      refine (kL.out).mono ?_
      rintro ev w5 ⟨rfl, hB5⟩
      have h5 := h4.out.more hB5
      have kF := hidden (show Calls Tryz.prog 27 #[ptr db, .string ⟨#[108, 97, 115, 116]⟩] w5 _ from dFind_at h5 ok.out (i := M - 1) (r := ⟨[108, 97, 115, 116], 7⟩) (by rw [List.getElem?_append_right (by rw [hlen0.out]; omega), hlen0.out, Nat.sub_self]; rfl))
      replace h5 := hidden h5
      clear kL hB5 h4
      go_wp2_with fail
      refine (kF.out).mono ?_
      rintro ev w6 ⟨rfl, hB6⟩
      have h6 := h5.out.more hB6
      have kG := hidden (dFind_err (dfind_none h6 ok.out NM hok.out (fun q hq => by
        rcases List.mem_append.1 hq with hq | hq
        · exact ((hmem.out q).1 hq).2
        · rw [List.mem_singleton.1 hq, ← hNM.out]
          intro e
          exact absurd (List.cons.inj e).1 (by decide))))
      replace h6 := hidden h6
      clear kF hB6 h5
      go_wp2_with fail
      refine (kN.out _).mono ?_
      rintro ev w7 ⟨rfl, hw7⟩
      subst w7
      go_wp2_with fail
      refine (kG.out).mono ?_
      rintro ev w7 ⟨bk, rfl, hc, hB7⟩
      have hb7 := (h6.out.more hB7).from hw0.out
      have kU := hidden (law_num 11 w7 _ _ hc (kGT.out _ hb7))
      replace hb7 := hidden hb7
      clear kG hc hB7
      go_wp2_with fail
      refine (kU.out).mono ?_
      rintro ev w8 ⟨rfl, hB8⟩
      have hb8 := hidden (hb7.out.trans (hB8.mono hb7.out.size))
      have kW := hidden (kA.out _ hb8.out)
      clear kU hB8
      go_wp2_with fail
      refine (kW.out).mono ?_
      rintro ev w9 ⟨rfl, hB9⟩
      have hE := hidden (hb8.out.trans (hB9.mono hb8.out.size))
      clear hB9 kW
      go_wp2
      go_ret
      exact ⟨by simp, hE.out⟩
end Go.Proofs.YtpofdffogkojdaaGreatDoor
