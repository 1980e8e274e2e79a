/- PlaceFirst. -/
import Derived.Test.YtfnfhabepadikaaKG
namespace Go.Proofs.Ytfnfhabepadikaa
open Go Go.RowKit
set_option maxRecDepth 100000

set_option maxHeartbeats 8000000 in
theorem placeFirst_calls (l : List Rg) (x y : Int) (w : World) (v : Value) (hv : RgAt w v l) : Calls Try.prog 3 #[v, .int .i64 x, .int .i64 y] w fun e w' => e = .returned (.bool true) ∧ Below w.heap.size w w' := by
  have kA := hidden (fun wx => awake_calls wx)
  obtain ⟨s0, s1, hs, hs0, hs1, ht, ht0, ht1⟩ := and_rem x 255 200 (by omega) (by omega) (by omega)
  obtain ⟨S, hS⟩ := nat_of (show 0 ≤ s1 + 1 by omega)
  have hS2 : 1 ≤ S ∧ S ≤ 200 := by omega
  obtain ⟨t0, t1, hu, hu0, hu1, hr, hr0, hr1⟩ := and_rem y 255 (S : Int) (by omega) (by omega) (by omega)
  obtain ⟨T, hT⟩ : ∃ T, t1 + 1 = T := ⟨_, rfl⟩
  have hT2 : 1 ≤ T ∧ T ≤ S := by omega
  have hS3 : (S : Int) ≠ 0 := by omega
  obtain ⟨a0, cap, rfl, hcap, hc⟩ := hv
  replace hc := hidden hc
  obtain ⟨Z, hZ⟩ : ∃ Z, Array.replicate 1500 (Value.bool false) = Z := ⟨_, rfl⟩
  have z0 := zero1500 w
  rw [hZ] at z0
  obtain ⟨g, hg⟩ : ∃ g, w.heap.size = g := ⟨_, rfl⟩
  have hF0 := hidden (show Fill w g 1500 1278 0 (w.alloc (.cells Z 23)) (.slice none 0 0) [] from by
    have b0 := bAt_new w 1500 23
    rw [hZ] at b0
    subst hg
    exact ⟨RgOwn.nil _ _, rfl, (fun a h => by cases h), ⟨_, b0, tells_nil _⟩, box_new _ _⟩)
  go_enter Try.func3, Try.ntmps3
  go_wp2_with fail
  generalize w.alloc (.cells Z 23) = w1 at hF0 ⊢
  clear z0 hZ
  go_loopg [7, 9] 10 (fun fu sa si wr => ∃ (i : Nat) (L : List Rg), i ≤ 10 ∧ fu = 10 - i ∧ si = .int .i64 (i : Int) ∧ Hid (Fill w g 1500 1278 i wr sa L))
  case atStart => exact ⟨0, [], Nat.zero_le _, rfl, rfl, hF0⟩
  case round =>
    obtain ⟨i, L, hi, hfu, rfl, hI⟩ := hrel
    clear hF0
    replace hfu := hidden hfu
    obtain ⟨q, hq⟩ : ∃ q : Bool, decide (i < l.length ∧ i < 10) = q := ⟨_, rfl⟩
    replace hq := hidden hq
    go_upto_region 4 with fail
    go_cut [27] from 20 to 27 (fun v wx => v = .bool q ∧ wx = wr)
    case first =>
      by_cases h1 : i < l.length
      · have h1c : (i : Int) < (l.length : Int) := by omega
        by_cases h2 : i < 10
        · have h2c : (i : Int) < 10 := by omega
          go_wp2
          go_meet
          case rel => exact ⟨by rw [← hq.out, decide_eq_true (show i < l.length ∧ i < 10 from ⟨h1, h2⟩)], rfl⟩
        · have h2c : ¬ (i : Int) < 10 := by omega
          go_wp2
          go_meet
          case rel => exact ⟨by rw [← hq.out, decide_eq_false (show ¬ (i < l.length ∧ i < 10) by omega)], rfl⟩
      · have h1c : ¬ (i : Int) < (l.length : Int) := by omega
        go_wp2
        go_meet
        case rel => exact ⟨by rw [← hq.out, decide_eq_false (show ¬ (i < l.length ∧ i < 10) by omega)], rfl⟩
    case rest =>
      obtain ⟨rfl, rfl⟩ := hcut
      rename World => wr
      cases q
      rotate_left
      · obtain ⟨h1, h2⟩ := of_decide_eq_true hq.out
        have h1c : (i : Int) < (l.length : Int) := by omega
        have hFill := hI.out
        obtain ⟨b, off, rfl, hbl, hx⟩ := hc.out (by rintro rfl; simp at h1)
        obtain ⟨⟨lx, ly⟩, hget⟩ : ∃ t, l[i]? = some t := ⟨_, List.getElem?_eq_getElem h1⟩
        obtain ⟨f0, f1⟩ := hx i _ hget
        dsimp only at f0 f1
        replace f0 := ((hFill.bel.mono (Nat.le_refl _)).cell (p := ⟨b, off + i * 2, none⟩) (by rw [← hg]; exact hbl)).trans f0
        replace f1 := ((hFill.bel.mono (Nat.le_refl _)).cell (p := ⟨b, off + i * 2 + 1, none⟩) (by rw [← hg]; exact hbl)).trans f1
        obtain ⟨p0, hp, hp0, hp1⟩ := and_of lx 1023 (by omega) (by omega)
        obtain ⟨d0, hd, hd0, hd1⟩ := and_of ly 255 (by omega) (by omega)
        obtain ⟨p, rfl⟩ := nat_of hp0
        obtain ⟨d, rfl⟩ := nat_of hd0
        obtain ⟨Q, hQ⟩ : ∃ Q : Nat, (p : Int) + (d : Int) = (Q : Int) := ⟨p + d, by omega⟩
        have hpQ : p ≤ Q ∧ Q ≤ 1278 := by omega
        clear hx hget
        go_upto_region 7 with fail
        have hbx := box_at wr p 0
        have hBn := hidden (box_new wr (Obj.cells #[Value.int .i64 (p : Int), Value.int .i64 0] 25))
        have hbw : b < wr.heap.size := Nat.lt_of_lt_of_le (by rw [hg] at hbl; exact Nat.lt_of_lt_of_le hbl (Nat.le_refl _)) (Nat.le_of_lt hFill.gt)
        replace f1 := (hBn.out.cell (p := ⟨b, off + i * 2 + 1, none⟩) hbw).trans f1
        generalize wr.alloc (Obj.cells #[Value.int .i64 (p : Int), Value.int .i64 0] 25) = w2 at hbx hBn f1 ⊢
        obtain ⟨bx, hbxe⟩ : ∃ bx, wr.heap.size = bx := ⟨_, rfl⟩
        rw [hbxe] at hbx
        have e0 := hbx.c0
        have e1 := hbx.c1
        have e2 := hbx.fz 1
        have hB3 := hidden (show Below wr.heap.size wr (w2.setCell ⟨bx, 1, none⟩ (.int .i64 (Q : Int))).drew from (hBn.out.setCell (p := ⟨bx, 1, none⟩) (by rw [hbxe]; exact Nat.le_refl _) _).drew)
        have hbx3 := hidden (hbx.set1 (Q : Int))
        clear f0
        rw [hbxe]
        go_region
        generalize (w2.setCell ⟨bx, 1, none⟩ (.int .i64 (Q : Int))).drew = w3 at hB3 hbx3 ⊢
        obtain ⟨v4, w4, hrun, hO4, ⟨f, hf4, ht4⟩, hB4, hs4, hk4⟩ := hFill.push hB3.out (by omega) p Q
        have hbx4 := hidden (hbx3.out.heap (hk4 bx (by omega) hbx3.out.lt))
        have c0 := hbx3.out.c0
        have c1 := hbx3.out.c1
        have d0 := hbx4.out.c0
        have hM0 := hidden (show Mid w g 1500 1278 i w4 w4 v4 L (p : Int) (p : Int) (Q : Int) from ⟨hO4, hFill.len, hFill.small, Apart.refl _ _, ⟨f, hf4, tells_begin ht4 _⟩, hB4⟩)
        have hne : ¬ bx = g := by have := hFill.gt; omega
        have hg4 := hidden (hf4.lt)
        replace hrun := hidden hrun
        clear hO4 hf4 ht4 hB4 hs4 hk4 hB3 hbx3 e0 e1 e2 f1 hbx hBn hFill hI
        replace hQ := hidden hQ
        go_wp2_with (at_builtin; refine wpList_append_eq _ _ 22 rfl _ _ v4 w4 rfl rfl hrun.out rfl ?_)
        clear hrun c0 c1 d0
        go_loopg [11] (Q - p) (fun fu sk wr2 => ∃ c : Nat, p ≤ c ∧ c ≤ Q ∧ fu = Q - c ∧ sk = .int .i64 (c : Int) ∧ Hid (Mid w g 1500 1278 i w4 wr2 v4 L (p : Int) (c : Int) (Q : Int)))
        case atStart => exact ⟨p, Nat.le_refl _, hpQ.1, rfl, rfl, hM0⟩
        case round =>
          obtain ⟨c, hpc, hcQ, hfu2, rfl, hM⟩ := hrel
          clear hM0
          replace hfu2 := hidden hfu2
          rename World => wr2
          have hbx5 := hbx4.out.apart hM.out.ap (by simpa using hne)
          have c0 := hbx5.c0
          have c1 := hbx5.c1
          clear hbx5
          by_cases hcq : c < Q
          · have hcq' : (c : Int) < (Q : Int) := by omega
            have hc15 : c < 1500 := by omega
            obtain ⟨bb, hcell⟩ := hM.out.cell c hc15
            have hfz := hM.out.fz c
            have hE := hidden (hM.out.step (by omega) hc15)
            clear hM
            go_wp2
            go_roundg (Q - (c + 1))
            case measure => rw [hfu2.out]; omega
            case rel => exact ⟨c + 1, by omega, hcq, rfl, by go_num, hE⟩
          · obtain rfl : c = Q := by omega
            have hE := hidden (hM.out.end (by omega) (by omega) (by omega) rfl hg4.out)
            clear hM
            go_wp2
            go_roundg (10 - (i + 1))
            case measure => rw [hfu.out]; omega
            case rel => exact ⟨i + 1, _, by omega, rfl, by go_num, hE⟩
      · clear hc hq
        have hFill := hI.out
        have hl32 : L.length ≤ 32 := by rw [hFill.len]; omega
        obtain ⟨hcl, hin⟩ := hFill.small.clean (by omega) hl32
        have h0 := hidden (fun k (hk : inR (cleanL L) k) => hFill.small.inR ((hin k).1 hk))
        obtain ⟨f, hf, htl⟩ := hFill.tell
        have hf5 := hidden (fun (wx : World) (hx : Below wr.heap.size wr wx) => hf.below hx)
        have htl2 := hidden (show Tells 1500 f (cleanL L) from fun k hk => (htl k hk).trans (hin k).symm)
        have hO5 := hidden (fun (wx : World) (hx : Below wr.heap.size wr wx) => hFill.own.at.below hx)
        have kF := hidden (pfind_calls L (S : Int) wr u7 hFill.own.at (by omega))
        have kG := hidden (fun (wx : World) (hx : Below wr.heap.size wr wx) => pfind_calls L T wx u7 (hO5.out wx hx) (by omega))
        have hB := hidden (show Below w.heap.size w wr by rw [hg]; exact hFill.bel)
        replace hcl := hidden hcl
        clear hI hFill hf htl hin hO5
        generalize cleanL L = C at *
        obtain ⟨R, hR⟩ : ∃ R, findL C (S : Int) = R := ⟨_, rfl⟩
        obtain ⟨z1, hz1⟩ : ∃ z, R.getD 0 = z := ⟨_, rfl⟩
        obtain ⟨z2, hz2⟩ : ∃ z, R.isSome = z := ⟨_, rfl⟩
        rw [hR, hz1, hz2] at kF
        replace hR := hidden hR
        replace hz1 := hidden hz1
        replace hz2 := hidden hz2
        go_wp2_with fail
        refine kF.out.mono ?_
        rintro e w5 ⟨rfl, hB5⟩
        have hf6 := hidden (hf5.out w5 hB5)
        have kG5 := hidden (fun (wx : World) (hx : Below w5.heap.size w5 wx) => kG.out wx (hB5.trans (hx.mono hB5.size)))
        have hB6 := hidden (hB.out.trans (hB5.mono hB.out.size))
        clear hf5 kG hB5 hB kF
        go_wp2_with fail
        go_loopg [14, 15] 81 (fun fu sn sp wr2 => ∃ (P j : Nat) (n : Int), j ≤ 80 ∧ P = 16 * j ∧ fu = 81 - j ∧ sn = .int .i64 n ∧ sp = .int .i64 (P : Int) ∧ wr2 = w5 ∧ Hid ((n = -1 ∧ ∀ q, 0 ≤ q → q < (P : Int) → q % 16 = 0 → ¬ Good C S q) ∨ (0 ≤ n ∧ R = some n)))
        case atStart => exact ⟨0, 0, -1, by omega, rfl, rfl, rfl, rfl, rfl, hidden (Or.inl ⟨rfl, fun q h1 h2 => by omega⟩)⟩
        case round =>
          obtain ⟨P, j, n, hj, hP, hfu2, rfl, rfl, rfl, hW⟩ := hrel
          replace hfu2 := hidden hfu2
          replace hP := hidden hP
          obtain ⟨q, hq⟩ : ∃ q : Bool, decide (P < 1280 ∧ n < 0) = q := ⟨_, rfl⟩
          replace hq := hidden hq
          rename World => w5
          go_upto_region 17 with fail
          go_cut [76] from 71 to 76 (fun v wx => v = .bool q ∧ wx = w5)
          case first =>
            by_cases h1 : P < 1280
            · have h1c : (P : Int) < 1280 := by omega
              by_cases h2 : n < 0
              · go_wp2
                go_meet
                case rel => exact ⟨by rw [← hq.out, decide_eq_true (show P < 1280 ∧ n < 0 from ⟨h1, h2⟩)], rfl⟩
              · go_wp2
                go_meet
                case rel => exact ⟨by rw [← hq.out, decide_eq_false (show ¬ (P < 1280 ∧ n < 0) by omega)], rfl⟩
            · have h1c : ¬ (P : Int) < 1280 := by omega
              go_wp2
              go_meet
              case rel => exact ⟨by rw [← hq.out, decide_eq_false (show ¬ (P < 1280 ∧ n < 0) by omega)], rfl⟩
          case rest =>
            obtain ⟨rfl, rfl⟩ := hcut
            rename World => w5
            cases q
            rotate_left
            · obtain ⟨h1, h2⟩ := of_decide_eq_true hq.out
              obtain ⟨rfl, hno⟩ : n = -1 ∧ ∀ q, 0 ≤ q → q < (P : Int) → q % 16 = 0 → ¬ Good C S q := by
                rcases hW.out with h | h
                · exact h
                · omega
              replace hno := hidden hno
              have h1c : (P : Int) < 1280 := by omega
              clear hW hq
              go_wp2_with fail
              go_loopg [16, 17] S (fun fu sb sk wr3 => ∃ (c : Nat) (bb : Bool), P ≤ c ∧ c ≤ P + S ∧ fu = P + S - c ∧ sb = .bool bb ∧ sk = .int .i64 (c : Int) ∧ wr3 = w5 ∧ Hid (bb = true ↔ ∀ k, (P : Int) ≤ k → k < (c : Int) → inR C k))
              case atStart => exact ⟨P, true, Nat.le_refl _, by omega, by omega, rfl, rfl, rfl, hidden (by simp; intro k h3 h4; omega)⟩
              case round =>
                obtain ⟨c, bb, hPc, hcS, hfu3, rfl, rfl, rfl, hbb⟩ := hrel
                replace hfu3 := hidden hfu3
                rename World => w5
                by_cases hcq : c < P + S
                · have hcq' : (c : Int) < (P : Int) + (S : Int) := by omega
                  have hc15 : c < 1500 := by omega
                  have hcell := hf6.out.cell c hc15
                  obtain ⟨fc, hfc⟩ : ∃ x, f c = x := ⟨_, rfl⟩
                  rw [hfc] at hcell
                  have hE := hidden (show (bb && fc) = true ↔ ∀ k, (P : Int) ≤ k → k < ((c + 1 : Nat) : Int) → inR C k by
                    rw [Bool.and_eq_true, hbb.out, ← hfc, htl2.out c hc15]
                    constructor
                    · rintro ⟨h3, h4⟩ k h5 h6
                      rcases Int.lt_or_le k c with h7 | h7
                      · exact h3 k h5 h7
                      · rw [show k = (c : Int) by omega]; exact h4
                    · exact fun h3 => ⟨fun k h5 h6 => h3 k h5 (by omega), h3 c (by omega) (by omega)⟩)
                  replace hfc := hidden hfc
                  clear hbb
                  cases bb
                  · go_wp2
                    go_roundg (P + S - (c + 1))
                    case measure => rw [hfu3.out]; omega
                    case rel => exact ⟨c + 1, _, by omega, hcq, rfl, rfl, by go_num, rfl, hE⟩
                  · go_wp2
                    go_roundg (P + S - (c + 1))
                    case measure => rw [hfu3.out]; omega
                    case rel => exact ⟨c + 1, _, by omega, hcq, rfl, rfl, by go_num, rfl, hE⟩
                · obtain rfl : c = P + S := by omega
                  cases bb
                  · have hE := hidden (show ∀ q, 0 ≤ q → q < ((P + 16 : Nat) : Int) → q % 16 = 0 → ¬ Good C S q from fun q h3 h4 h5 h6 => by
                      rcases Int.lt_or_le q P with h7 | h7
                      · exact hno.out q h3 h7 h5 h6
                      · obtain rfl : q = (P : Int) := by have := hP.out; omega
                        exact absurd (hbb.out.2 fun k h8 h9 => h6 k h8 (by omega)) (by simp))
                    clear hbb
                    go_wp2
                    go_roundg (81 - (j + 1))
                    case measure => rw [hfu2.out]; omega
                    case rel => exact ⟨P + 16, j + 1, -1, by have := hP.out; omega, by rw [hP.out]; omega, rfl, rfl, by go_num, rfl, hidden (Or.inl ⟨rfl, hE.out⟩)⟩
                  · have hE := hidden (show R = some (P : Int) by
                      rw [← hR.out]
                      exact first_is hcl.out (by omega) (by have := hP.out; omega) (fun k h8 h9 => hbb.out.1 rfl k h8 (by omega)) hno.out fun k hk => (h0.out k hk).1)
                    clear hbb
                    go_wp2
                    go_roundg (81 - (j + 1))
                    case measure => rw [hfu2.out]; omega
                    case rel => exact ⟨P + 16, j + 1, P, by have := hP.out; omega, by rw [hP.out]; omega, rfl, rfl, by go_num, rfl, hidden (Or.inr ⟨by omega, hE.out⟩)⟩
            · rcases hW.out with ⟨rfl, hno⟩ | ⟨hn, hRn⟩
              · have hRn : R = none := by
                  rw [← hR.out]
                  have h3 := of_decide_eq_false hq.out
                  exact first_none (e := 1280) (by omega) (fun q h4 h5 => hno q h4 (by omega)) fun k hk => by have := h0.out k hk; omega
                obtain rfl : 0 = z1 := by rw [← hz1.out, hRn]; rfl
                obtain rfl : false = z2 := by rw [← hz2.out, hRn]; rfl
                clear hW hno hq hRn
                go_wp2_with (go_at_call 10; refine (kA.out _).mono ?_; rintro e w7 ⟨rfl, hBc⟩; have hBd := hidden (hB6.out.trans (hBc.mono hB6.out.size)))
                go_ret
                exact ⟨rfl, hBd.out⟩
              · obtain rfl : n = z1 := by rw [← hz1.out, hRn]; rfl
                obtain rfl : true = z2 := by rw [← hz2.out, hRn]; rfl
                obtain ⟨b2, hb2, hle⟩ := less_found hcl.out (hR.out.trans hRn) hT2.1 hT2.2
                have kG6 := hidden (kG5.out w5 (Below.refl _ _))
                rw [hb2] at kG6
                dsimp only [Option.getD, Option.isSome] at kG6
                clear hW hq hRn kG5 hb2
                go_wp2_with (first
                  | (go_at_call 9; refine kG6.out.mono ?_; rintro e w6 ⟨rfl, hBa⟩; have hBb := hidden (hB6.out.trans (hBa.mono hB6.out.size)); clear hBa hB6 kG6)
                  | (go_at_call 10; refine (kA.out _).mono ?_; rintro e w7 ⟨rfl, hBc⟩; have hBd := hidden (hBb.out.trans (hBc.mono hBb.out.size)); clear hBc hBb))
                go_ret
                exact ⟨rfl, hBd.out⟩
end Go.Proofs.Ytfnfhabepadikaa
