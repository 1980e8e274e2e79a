/- FsFormats answers true, whatever it is given, and changes nothing that was there. -/
import Derived.Test.YtjionogjeafffaaGreatDoorGWo
import Derived.Test.YtjionogjeafffaaGreatDoorGXf
import Derived.Deep.CutBlock
namespace Go.Proofs.YtjionogjeafffaaGreatDoor
open Go.RowKit Go.Extern.Stop Go.Stop Go.Extern Go.Maps Go.Sort Go.Shelf
set_option maxRecDepth 100000

theorem fmt200z : FmtN 200 10 0 93 := ⟨by omega, by omega, by omega, by omega, by omega, by omega, by omega, by omega⟩
theorem and_mo (z : Int) : ∃ N : Nat, bits .and .i64 z 2047 = (N : Int) ∧ N ≤ 2047 := by
  have h : 0 ≤ bits .and .i64 z 2047 ∧ bits .and .i64 z 2047 ≤ 2047 := and_low z 2047 (by decide)
  exact ⟨(bits .and .i64 z 2047).toNat, by omega, by omega⟩
/-- What New and the document's Format answer to a number of blocks: both, or neither. -/
theorem new_any (N : Nat) (h16 : 16 ≤ N) (hN : N ≤ 4000) (w : World) (hG : Ground w) :
    ∃ q : Bool, (∀ wx, Below w.heap.size w wx → Calls Tryz.prog 6 #[.int .i64 N, .int .i64 10, .int .i64 0] wx fun e w' => (∃ a, e = .returned (.pointer a) ∧ (a == none) = !q) ∧ Below wx.heap.size wx w') ∧ ∀ wx, Calls Tryz.prog 10 #[.int .i64 N, .int .i64 10, .int .i64 0] wx fun e w' => (∃ a, e = .returned (.pointer a) ∧ (a == none) = !q) ∧ Below wx.heap.size wx w' := by
  by_cases hf : fmtOk (N : Int) 10 0
  · obtain ⟨i', r', dd, h1, h2, hf'⟩ := fmt_of hf
    obtain rfl : i' = 10 := by omega
    obtain rfl : r' = 0 := by omega
    exact ⟨true, fun wx hx => (New11_calls hf' wx (hG.below hx)).mono fun e w' ⟨E, fb, hb, xb, he, hn⟩ => ⟨⟨_, he, rfl⟩, hn.below⟩, fun wx => (refFormat_ok hf' wx).mono fun e w' ⟨b, he, hb⟩ => ⟨⟨_, he, rfl⟩, hb⟩⟩
  · exact ⟨false, fun wx hx => (New11_bad N h16 hN 10 0 hf wx (hG.below hx)).mono fun e w' ⟨he, hb⟩ => ⟨⟨none, he, rfl⟩, hb⟩, fun wx => (refFormat_bad N 10 0 hf wx).mono fun e w' ⟨he, hw⟩ => ⟨⟨none, he, rfl⟩, by rw [hw]; exact Below.refl _ _⟩⟩
/-- What Format answers of a disk that is a copy. -/
theorem format_any {w0 : World} {d g : Nat} {mem : Nat → Int} {wr : Int} {w : World} (h : Sys w0 d g 200 mem wr (-1) w) (hw0 : w0.heap.size ≤ d ∧ w0.heap.size ≤ g) (hwr : 0 ≤ wr ∧ wr ≤ 6000) (i r : Int) :
    ∃ q : Bool, (Calls Tryz.prog 9 #[ptr d, .int .i64 i, .int .i64 r] w fun e w' => (if q = true then ∃ a, e = .returned (.tuple #[ptr a, .nilIface]) else ∃ b, e = .returned (.tuple #[.pointer none, flt b]) ∧ Chain w' [(sFormat, ⟨#[]⟩)] (num 1) (flt b)) ∧ Apart [d, g] w w') ∧ ∀ wx, Calls Tryz.prog 10 #[.int .i64 200, .int .i64 i, .int .i64 r] wx fun e w' => (∃ a, e = .returned (.pointer a) ∧ (a == none) = !q) ∧ Below wx.heap.size wx w' := by
  by_cases hf : fmtOk ((200 : Nat) : Int) i r
  · obtain ⟨i', r', dd, rfl, rfl, hf'⟩ := fmt_of hf
    exact ⟨true, (fFormat_ok (lim := 6000) h hf' hw0 hwr (by omega)).mono fun e w' ⟨jb, cb, mb, ab, tb, fb, hb, he, _, _, hA⟩ => ⟨by rw [if_pos rfl]; exact ⟨_, he⟩, hA⟩, fun wx => (refFormat_ok hf' wx).mono fun e w' ⟨b, he, hb⟩ => ⟨⟨_, he, rfl⟩, hb⟩⟩
  · exact ⟨false, (fFormat_of (format_bad h i r hf)).mono fun e w' ⟨b, he, hc, hb⟩ => ⟨by rw [if_neg (by decide)]; exact ⟨b, he, hc⟩, Apart.of_below hb⟩, fun wx => (refFormat_bad 200 i r hf wx).mono fun e w' ⟨he, hw⟩ => ⟨⟨none, he, rfl⟩, by rw [hw]; exact Below.refl _ _⟩⟩
set_option maxHeartbeats 8000000 in
theorem fsFormats_calls (zb zi zr : Int) (w : World) (hG : Ground w) (hGT : GT w) :
    Calls Tryz.prog 3 #[.int .i64 zb, .int .i64 zi, .int .i64 zr] w fun e w' => e = .returned (.bool true) ∧ Below w.heap.size w w' := by
  have kM := hidden (New11_calls fmt200z w hG)
  obtain ⟨M, hM, hMb⟩ := and_mo zb
  obtain ⟨N, hN⟩ : ∃ N, M + 16 = N := ⟨_, rfl⟩
  have hMN : (M : Int) + 16 = (N : Int) := by omega
  have hMI : (M : Int) ≤ 2047 := by omega
  obtain ⟨q2, kN2, kR2⟩ := new_any N (by omega) (by omega) w hG
  have kA := hidden (fun (wx : World) (hx : Below w.heap.size w wx) => awake11_calls wx (hG.below hx) (hGT.below hx))
  have kNil := hidden (fun (wx : World) => fFormat_of (format_nil 10 0 wx))
  have kIs := hidden (fun (wx : World) (hx : Below w.heap.size w wx) (b : Nat) (hc : Chain wx [(sFormat, ⟨#[]⟩)] (num 1) (flt b)) => law_is 1 rfl wx sFormat ⟨#[]⟩ [] (flt b) hc (hGT.below hx))
  have kNm := hidden (fun (wx : World) (hx : Below w.heap.size w wx) (b : Nat) (hc : Chain wx [(sFormat, ⟨#[]⟩)] (num 1) (flt b)) => law_num 1 wx [(sFormat, ⟨#[]⟩)] (flt b) hc (hGT.below hx))
  replace kN2 := hidden kN2
  replace kR2 := hidden kR2
  unfold sFormat at kIs
  clear hG hGT hN hMb
  go_enter Tryz.func3, Tryz.ntmps3
  go_wp2_with fail
  refine (kM.out).mono ?_
  rintro ev w1 ⟨E, fb, hb, xb, rfl, hNw⟩
  obtain ⟨mem, wr, hS, hwr⟩ := hNw.sys
  have x0 := hNw.x0
  have lx := lt_of_cell (a := ⟨xb, 0, none⟩) x0
  have hB1 := hidden hNw.below
  have kC := hidden (sysw_copy hS)
  replace hwr := hidden hwr
  clear hNw kM hS
  go_upto_region 4 with fail
  go_wp2_with fail
  refine (kC.out).mono ?_
  rintro ev w2 ⟨d', g', rfl, hS2, -, hB2⟩
  have hd2 := hidden (And.intro hS2.hd hS2.hg)
  have kB := hidden (sys_blocks hS2)
  obtain ⟨q, kF, kR⟩ := format_any hS2 hd2.out hwr.out zi zr
  have hB12 := hidden (hB1.out.trans (hB2.mono hB1.out.size))
  have hs12 := hidden hB1.out.size
  replace kF := hidden kF
  replace kR := hidden kR
  clear hS2 hB2 kC x0 lx hB1
  go_upto_region 5 with fail
  go_wp2_with fail
  refine (kB.out).mono ?_
  rintro ev w3 ⟨rfl, hw3⟩
  subst w3
  go_upto_region 7 with fail
  go_wp2_with fail
  refine (kF.out).mono ?_
  rintro ev w4 ⟨hq, hA4⟩
  have hB4 := hidden (hB12.out.trans (hA4.below (by have := hd2.out; have := hs12.out; simp; omega) hB12.out.size))
  clear hA4 kF kB
  cases q
  · simp only [Bool.false_eq_true, if_false] at hq
    obtain ⟨b, rfl, hc⟩ := hq
    dsimp only
    go_upto_region 8 with fail
    go_wp2_with fail
    refine (kR.out w4).mono ?_
    rintro ev w5 ⟨⟨a5, rfl, h5⟩, hb5⟩
    rcases a5 with _ | a5
    rotate_left
    · simp at h5
    have hB5 := hidden (hB4.out.trans (hb5.mono hB4.out.size))
    clear h5 hB4 kR
    have kI := hidden (kIs.out w5 hB5.out b (Chain.below hb5 _ _ _ hc))
    replace hc := hidden hc
    clear hb5
    go_upto_region 9 with fail
    go_wp2_with fail
    refine (kI.out).mono ?_
    rintro ev w6 ⟨rfl, hb6⟩
    have hB6 := hidden (hB5.out.trans (hb6.mono hB5.out.size))
    clear hb6 kI hc
    go_upto_region 11 with fail
    go_wp2_with fail
    refine (kNil.out _).mono ?_
    rintro ev w7 ⟨bn, rfl, hcn, hb7⟩
    have hB7 := hidden (hB6.out.trans (hb7.mono hB6.out.size))
    replace hcn := hidden hcn
    clear hb7 hB6
    go_upto_region 12 with fail
    go_wp2_with fail
    refine (kN2.out w7 hB7.out).mono ?_
    rintro ev w8 ⟨⟨a2, rfl, h2⟩, hb8⟩
    have hB8 := hidden (hB7.out.trans (hb8.mono hB7.out.size))
    have hc8 := Chain.below hb8 _ _ _ hcn.out
    replace hc8 := hidden hc8
    clear hb8 hB7 hcn
    go_upto_region 13 with fail
    go_wp2_with fail
    refine (kR2.out w8).mono ?_
    rintro ev w9 ⟨⟨a3, rfl, h3⟩, hb9⟩
    have hB9 := hidden (hB8.out.trans (hb9.mono hB8.out.size))
    have kN := hidden (kNm.out w9 hB9.out bn (Chain.below hb9 _ _ _ hc8.out))
    clear hb9 hB8 hc8
    go_upto_region 14 with fail
    go_wp2_with fail
    refine (kN.out).mono ?_
    rintro ev wA ⟨rfl, hbA⟩
    have hBA := hidden (hB9.out.trans (hbA.mono hB9.out.size))
    clear hbA hB9 kN
    rcases a2 with _ | a2
    · obtain rfl : q2 = false := by cases q2 <;> simp_all
      go_wp2_with fail
      refine (kA.out wA hBA.out).mono ?_
      rintro ev wB ⟨rfl, hbB⟩
      have hBB := hidden (hBA.out.trans (hbB.mono hBA.out.size))
      clear hbB hBA
      go_wp2
      go_ret
      exact ⟨rfl, hBB.out⟩
    · rcases a3 with _ | a3
      · exfalso; cases q2 <;> simp_all
      · go_wp2_with fail
        refine (kA.out wA hBA.out).mono ?_
        rintro ev wB ⟨rfl, hbB⟩
        have hBB := hidden (hBA.out.trans (hbB.mono hBA.out.size))
        clear hbB hBA
        go_wp2
        go_ret
        exact ⟨rfl, hBB.out⟩
  · simp only [if_true] at hq
    obtain ⟨a, rfl⟩ := hq
    dsimp only
    go_upto_region 8 with fail
    go_wp2_with fail
    refine (kR.out w4).mono ?_
    rintro ev w5 ⟨⟨a5, rfl, h5⟩, hb5⟩
    rcases a5 with _ | a5
    · simp at h5
    have hB6 := hidden (hB4.out.trans (hb5.mono hB4.out.size))
    clear h5 hb5 hB4 kR
    go_upto_region 11 with fail
    go_wp2_with fail
    refine (kNil.out _).mono ?_
    rintro ev w7 ⟨bn, rfl, hcn, hb7⟩
    have hB7 := hidden (hB6.out.trans (hb7.mono hB6.out.size))
    replace hcn := hidden hcn
    clear hb7 hB6
    go_upto_region 12 with fail
    go_wp2_with fail
    refine (kN2.out w7 hB7.out).mono ?_
    rintro ev w8 ⟨⟨a2, rfl, h2⟩, hb8⟩
    have hB8 := hidden (hB7.out.trans (hb8.mono hB7.out.size))
    have hc8 := Chain.below hb8 _ _ _ hcn.out
    replace hc8 := hidden hc8
    clear hb8 hB7 hcn
    go_upto_region 13 with fail
    go_wp2_with fail
    refine (kR2.out w8).mono ?_
    rintro ev w9 ⟨⟨a3, rfl, h3⟩, hb9⟩
    have hB9 := hidden (hB8.out.trans (hb9.mono hB8.out.size))
    have kN := hidden (kNm.out w9 hB9.out bn (Chain.below hb9 _ _ _ hc8.out))
    clear hb9 hB8 hc8
    go_upto_region 14 with fail
    go_wp2_with fail
    refine (kN.out).mono ?_
    rintro ev wA ⟨rfl, hbA⟩
    have hBA := hidden (hB9.out.trans (hbA.mono hB9.out.size))
    clear hbA hB9 kN
    rcases a2 with _ | a2
    · obtain rfl : q2 = false := by cases q2 <;> simp_all
      go_wp2_with fail
      refine (kA.out wA hBA.out).mono ?_
      rintro ev wB ⟨rfl, hbB⟩
      have hBB := hidden (hBA.out.trans (hbB.mono hBA.out.size))
      clear hbB hBA
      go_wp2
      go_ret
      exact ⟨rfl, hBB.out⟩
    · rcases a3 with _ | a3
      · exfalso; cases q2 <;> simp_all
      · go_wp2_with fail
        refine (kA.out wA hBA.out).mono ?_
        rintro ev wB ⟨rfl, hbB⟩
        have hBB := hidden (hBA.out.trans (hbB.mono hBA.out.size))
        clear hbB hBA
        go_wp2
        go_ret
        exact ⟨rfl, hBB.out⟩
end Go.Proofs.YtjionogjeafffaaGreatDoor
