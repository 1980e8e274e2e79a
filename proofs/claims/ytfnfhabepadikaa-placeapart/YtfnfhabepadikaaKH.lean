/- PlaceApart. -/
import Derived.Test.YtfnfhabepadikaaKG
namespace Go.Proofs.Ytfnfhabepadikaa
open Go Go.RowKit
set_option maxRecDepth 100000

set_option maxHeartbeats 8000000 in
theorem placeApart_calls (l : List Rg) (zs : List Int) (w : World) (v u : Value) (hv : RgAt w v l) (hu : IntAt w u zs) : Calls Try.prog 7 #[v, u] w fun e w' => e = .returned (.bool true) ∧ Below w.heap.size w w' := by
  have kA := hidden (fun wx => awake_calls wx)
  obtain ⟨a0, cap, rfl, hcap, hc⟩ := hv
  replace hc := hidden hc
  obtain ⟨au, capu, rfl, hcapu, hcu⟩ := hu
  replace hcu := hidden hcu
  obtain ⟨Z, hZ⟩ : ∃ Z, Array.replicate 1100 (Value.bool false) = Z := ⟨_, rfl⟩
  have z0 := zero1100 w
  rw [hZ] at z0
  obtain ⟨g, hg⟩ : ∃ g, w.heap.size = g := ⟨_, rfl⟩
  have hF0 := hidden (show Fill w g 1100 1023 0 (w.alloc (.cells Z 41)) (.slice none 0 0) [] from by
    have b0 := bAt_new w 1100 41
    rw [hZ] at b0
    subst hg
    exact ⟨RgOwn.nil _ _, rfl, (fun a h => by cases h), ⟨_, b0, tells_nil _⟩, box_new _ _⟩)
  go_enter Try.func7, Try.ntmps7
  go_wp2_with fail
  generalize w.alloc (.cells Z 41) = w1 at hF0 ⊢
  clear z0 hZ
  go_loopg [5, 7] 8 (fun fu sa si wr => ∃ (i : Nat) (L : List Rg), i ≤ 8 ∧ fu = 8 - i ∧ si = .int .i64 (i : Int) ∧ Hid (Fill w g 1100 1023 i wr sa L))
  case atStart => exact ⟨0, [], Nat.zero_le _, rfl, rfl, hF0⟩
  case round =>
    obtain ⟨i, L, hi, hfu, rfl, hI⟩ := hrel
    clear hF0
    replace hfu := hidden hfu
    obtain ⟨q, hq⟩ : ∃ q : Bool, decide (i < l.length ∧ i < 8) = q := ⟨_, rfl⟩
    replace hq := hidden hq
    go_upto_region 4 with fail
    go_cut [24] from 17 to 24 (fun v wx => v = .bool q ∧ wx = wr)
    case first =>
      by_cases h1 : i < l.length
      · have h1c : (i : Int) < (l.length : Int) := by omega
        by_cases h2 : i < 8
        · have h2c : (i : Int) < 8 := by omega
          go_wp2
          go_meet
          case rel => exact ⟨by rw [← hq.out, decide_eq_true (show i < l.length ∧ i < 8 from ⟨h1, h2⟩)], rfl⟩
        · have h2c : ¬ (i : Int) < 8 := by omega
          go_wp2
          go_meet
          case rel => exact ⟨by rw [← hq.out, decide_eq_false (show ¬ (i < l.length ∧ i < 8) by omega)], rfl⟩
      · have h1c : ¬ (i : Int) < (l.length : Int) := by omega
        go_wp2
        go_meet
        case rel => exact ⟨by rw [← hq.out, decide_eq_false (show ¬ (i < l.length ∧ i < 8) by omega)], rfl⟩
    case rest =>
      obtain ⟨rfl, rfl⟩ := hcut
      rename World => wr
      cases q
      rotate_left
      · obtain ⟨h1, h2⟩ := of_decide_eq_true hq.out
        have h1c : (i : Int) < (l.length : Int) := by omega
        have hFill := hI.out
        obtain ⟨b, off, rfl, hbl, hx⟩ := hc.out (by rintro rfl; simp at h1)
        obtain ⟨⟨lx, ly⟩, hget⟩ : ∃ t, l[i]? = some t := ⟨_, List.getElem?_eq_getElem h1⟩
        obtain ⟨f0, f1⟩ := hx i _ hget
        dsimp only at f0 f1
        replace f0 := ((hFill.bel.mono (Nat.le_refl _)).cell (p := ⟨b, off + i * 2, none⟩) (by rw [← hg]; exact hbl)).trans f0
        replace f1 := ((hFill.bel.mono (Nat.le_refl _)).cell (p := ⟨b, off + i * 2 + 1, none⟩) (by rw [← hg]; exact hbl)).trans f1
        obtain ⟨p0, hp, hp0, hp1⟩ := and_of lx 1023 (by omega) (by omega)
        obtain ⟨d0, hd, hd0, hd1⟩ := and_of ly 1023 (by omega) (by omega)
        obtain ⟨P, Q, hPQ, hcase⟩ : ∃ P Q : Nat, (P ≤ Q ∧ Q ≤ 1023) ∧ ((p0 = (P : Int) ∧ d0 = (Q : Int) ∧ ¬ (Q : Int) < (P : Int)) ∨ (p0 = (Q : Int) ∧ d0 = (P : Int) ∧ (P : Int) < (Q : Int))) := by
          obtain ⟨p1, rfl⟩ := nat_of hp0
          obtain ⟨d1, rfl⟩ := nat_of hd0
          rcases Nat.lt_or_ge d1 p1 with h | h
          · exact ⟨d1, p1, by omega, Or.inr ⟨rfl, rfl, by omega⟩⟩
          · exact ⟨p1, d1, by omega, Or.inl ⟨rfl, rfl, by omega⟩⟩
        clear hx hget
        go_upto_region 6 with fail
        go_quiet (fail)
        have hBq := hidden (bdN wr nq)
        generalize wr.drewN nq = w3 at hBq ⊢
        obtain ⟨v4, w4, hrun, hO4, ⟨f, hf4, ht4⟩, hB4, hs4, hk4⟩ := hFill.push hBq.out (by omega) P Q
        have hM0 := hidden (show Mid w g 1100 1023 i w4 w4 v4 L (P : Int) (P : Int) (Q : Int) from ⟨hO4, hFill.len, hFill.small, Apart.refl _ _, ⟨f, hf4, tells_begin ht4 _⟩, hB4⟩)
        have hg4 := hidden (hf4.lt)
        replace hrun := hidden hrun
        clear hO4 hf4 ht4 hB4 hs4 hk4 hBq f0 f1 hFill hI
        clear hp hd hp0 hp1 hd0 hd1
        rcases hcase with ⟨rfl, rfl, hle⟩ | ⟨rfl, rfl, hle⟩
        all_goals
          go_wp2_with (at_builtin; refine wpList_append_eq _ _ 22 rfl _ _ v4 w4 rfl rfl hrun.out rfl ?_)
          clear hrun
          go_loopg [10] (Q - P) (fun fu sk wr2 => ∃ c : Nat, P ≤ c ∧ c ≤ Q ∧ fu = Q - c ∧ sk = .int .i64 (c : Int) ∧ Hid (Mid w g 1100 1023 i w4 wr2 v4 L (P : Int) (c : Int) (Q : Int)))
          case atStart => exact ⟨P, Nat.le_refl _, hPQ.1, rfl, rfl, hM0⟩
          case round =>
            obtain ⟨c, hpc, hcQ, hfu2, rfl, hM⟩ := hrel
            clear hM0
            replace hfu2 := hidden hfu2
            rename World => wr2
            by_cases hcq : c < Q
            · have hcq' : (c : Int) < (Q : Int) := by omega
              have hc15 : c < 1100 := by omega
              obtain ⟨bb, hcell⟩ := hM.out.cell c hc15
              have hfz := hM.out.fz c
              have hE := hidden (hM.out.step (by omega) hc15)
              clear hM
              go_wp2
              go_roundg (Q - (c + 1))
              case measure => rw [hfu2.out]; omega
              case rel => exact ⟨c + 1, by omega, hcq, rfl, by go_num, hE⟩
            · obtain rfl : c = Q := by omega
              have hE := hidden (hM.out.end (by omega) (by omega) (by omega) rfl hg4.out)
              clear hM
              go_wp2
              go_roundg (8 - (i + 1))
              case measure => rw [hfu.out]; omega
              case rel => exact ⟨i + 1, _, by omega, rfl, by go_num, hE⟩
      · clear hc hq
        have hFill := hI.out
        have hl32 : L.length ≤ 32 := by rw [hFill.len]; omega
        obtain ⟨hcl, hin⟩ := hFill.small.clean (by omega) hl32
        obtain ⟨f, hf, htl⟩ := hFill.tell
        have hC := hidden (show (∀ k, inR (cleanL L) k → k < 1023) ∧ ∀ k : Nat, k < 1100 → inR (cleanL L) k → f k = true from ⟨fun k hk => (hFill.small.inR ((hin k).1 hk)).2, fun k h1 h2 => (htl k h1).2 ((hin _).1 h2)⟩)
        have hB := hidden (show Below w.heap.size w wr by rw [hg]; exact hFill.bel)
        have hgl := hFill.gt
        have hf5 := hidden (fun (wx : World) (hx : Below wr.heap.size wr wx) => hf.below hx)
        have hO5 := hidden (fun (wx : World) (hx : Below wr.heap.size wr wx) => hFill.own.at.below hx)
        clear hI hFill hf htl hin hcl hfu
        go_wp2_with fail
        go_loopg [11, 12] 10 (fun fu vs si wr2 => ∃ (j : Nat) (ks : List Int), j ≤ 10 ∧ fu = 10 - j ∧ si = .int .i64 (j : Int) ∧ ks.length = j ∧ Hid (Kept wr.heap.size wr2 vs ks ∧ Below wr.heap.size wr wr2 ∧ ∀ z ∈ ks, 0 ≤ z ∧ z < 200))
        case atStart => exact ⟨0, [], by omega, rfl, rfl, rfl, hidden ⟨Kept.nil _ _, Below.refl _ _, fun z h => by cases h⟩⟩
        case round =>
          obtain ⟨j, ks, hj, hfu, rfl, hks, hI⟩ := hrel
          replace hfu := hidden hfu
          rename World => w2
          obtain ⟨q, hq⟩ : ∃ q : Bool, decide (j < zs.length ∧ j < 10) = q := ⟨_, rfl⟩
          replace hq := hidden hq
          go_upto_region 16 with fail
          go_cut [65] from 58 to 65 (fun v wx => v = .bool q ∧ wx = w2)
          case first =>
            by_cases h1 : j < zs.length
            · have h1c : (j : Int) < (zs.length : Int) := by omega
              by_cases h2 : j < 10
              · have h2c : (j : Int) < 10 := by omega
                go_wp2
                go_meet
                case rel => exact ⟨by rw [← hq.out, decide_eq_true (show j < zs.length ∧ j < 10 from ⟨h1, h2⟩)], rfl⟩
              · have h2c : ¬ (j : Int) < 10 := by omega
                go_wp2
                go_meet
                case rel => exact ⟨by rw [← hq.out, decide_eq_false (show ¬ (j < zs.length ∧ j < 10) by omega)], rfl⟩
            · have h1c : ¬ (j : Int) < (zs.length : Int) := by omega
              go_wp2
              go_meet
              case rel => exact ⟨by rw [← hq.out, decide_eq_false (show ¬ (j < zs.length ∧ j < 10) by omega)], rfl⟩
          case rest =>
            obtain ⟨rfl, rfl⟩ := hcut
            rename World => w2
            obtain ⟨hK, hB2, hz⟩ := hI.out
            cases q
            rotate_left
            · obtain ⟨h1, h2⟩ := of_decide_eq_true hq.out
              obtain ⟨b, off, rfl, hbl, hx⟩ := hcu.out (by rintro rfl; simp at h1)
              obtain ⟨z, hget⟩ : ∃ t, zs[j]? = some t := ⟨_, List.getElem?_eq_getElem h1⟩
              have f0 := ((hB.out.trans (hB2.mono hB.out.size)).cell (p := ⟨b, off + j, none⟩) hbl).trans (hx j z hget)
              obtain ⟨z0, z1, hz0, hz1, hz2, hz3, hz4, hz5⟩ := and_rem z 255 200 (by omega) (by omega) (by omega)
              obtain ⟨v3, w3, hrun, hK3, hB3, -⟩ := hK.push z1 (by omega) hB2.size
              have hE := hidden (show Kept wr.heap.size w3 v3 (ks ++ [z1]) ∧ Below wr.heap.size wr w3 ∧ ∀ z ∈ ks ++ [z1], 0 ≤ z ∧ z < 200 from ⟨hK3, hB2.trans hB3, fun t ht => by
                rcases List.mem_append.1 ht with ht | ht
                · exact hz t ht
                · rw [List.mem_singleton] at ht; subst ht; exact ⟨hz4, hz5⟩⟩)
              have h1c : (j : Int) < (zs.length : Int) := by omega
              replace hrun := hidden hrun
              clear hx hget hK hB2 hz hK3 hB3 hI hq
              go_wp2_with (at_builtin; refine wpList_append_eq _ _ 30 rfl _ _ v3 w3 rfl rfl hrun.out rfl ?_)
              go_roundg (10 - (j + 1))
              case measure => rw [hfu.out]; omega
              case rel => exact ⟨j + 1, _, by omega, rfl, by go_num, by simp [hks], hE⟩
            · have kF := hidden (all_own L ks w2 u5 u11 (hO5.out w2 hB2) hK.at (by omega) (by omega))
              have hk10 : ks.length ≤ 10 := by omega
              replace hks := hidden hks
              obtain ⟨R, hR⟩ : ∃ R, allR (cleanL L) ks = R := ⟨_, rfl⟩
              rw [hR] at kF
              replace hR := hidden hR
              have hB6 := hidden (hB.out.trans (hB2.mono hB.out.size))
              have hf6 := hidden (fun (wx : World) (hx : Below w2.heap.size w2 wx) => hf5.out wx (hB2.trans (hx.mono hB2.size)))
              have hgl2 : g < w2.heap.size := Nat.lt_of_lt_of_le hgl hB2.size
              have hK6 := hidden (fun (wx : World) (hx : Below w2.heap.size w2 wx) => hK.below hx)
              obtain ⟨ax, caps, rfl, -⟩ := hK.form
              replace hz := hidden hz
              clear hI hq hK hB2 hcu hO5 hf5 hB hfu
              cases R with
              | none =>
                dsimp only [Option.isSome, Option.getD] at kF
                go_wp2_with fail
                refine kF.out.mono ?_
                rintro e w7 ⟨⟨v7, rfl, hK7⟩, hB7⟩
                obtain ⟨a7, cap7, rfl, -⟩ := hK7.form
                have hB8 := hidden (hB6.out.trans (hB7.mono hB6.out.size))
                dsimp only [List.length_nil]
                clear hK7 hB7
                go_wp2_with (go_at_call 10; refine (kA.out _).mono ?_; rintro e w8 ⟨rfl, hBc⟩; have hBd := hidden (hB8.out.trans (hBc.mono hB8.out.size)))
                go_ret
                exact ⟨rfl, hBd.out⟩
              | some P =>
                have hPl := allR_len hR.out
                have hS0 := hidden (stepA_begin hR.out)
                dsimp only [Option.isSome, Option.getD] at kF
                go_wp2_with fail
                refine kF.out.mono ?_
                rintro e w7 ⟨⟨v7, rfl, hK7⟩, hB7⟩
                obtain ⟨bs, capx, -, hs1, hs2⟩ := (hK6.out w7 hB7).cells
                obtain ⟨bp, capp, -, hp1, hp2⟩ := hK7.cells
                obtain ⟨a7, cap7, rfl, -⟩ := hK7.form
                have hB8 := hidden (hB6.out.trans (hB7.mono hB6.out.size))
                have hg7 : g < w7.heap.size := Nat.lt_of_lt_of_le hgl2 hB7.size
                have hI0 := hidden (show Wipe w7 g 1100 w7 f ∧ StepA ks P 0 (cleanL L) ∧ (∀ k, inR (cleanL L) k → k < 1023) ∧ ∀ k : Nat, k < 1100 → inR (cleanL L) k → f k = true from ⟨⟨Apart.refl _ _, hf6.out w7 hB7⟩, hS0.out, hC.out.1, hC.out.2⟩)
                replace hs1 := hidden hs1
                replace hs2 := hidden hs2
                replace hp1 := hidden hp1
                replace hp2 := hidden hp2
                have hPl2 : ¬ (P.length : Int) ≠ (ks.length : Int) := by omega
                clear hK7 hB7 hK6 hf6 hS0 kF hB6
                rw [hPl]
                go_wp2_with fail
                go_loopg [15] ks.length (fun fu si wr3 => ∃ (i : Nat) (M : List Rg) (f : Nat → Bool), i ≤ ks.length ∧ fu = ks.length - i ∧ si = .int .i64 (i : Int) ∧ Hid (Wipe w7 g 1100 wr3 f ∧ StepA ks P i M ∧ (∀ k, inR M k → k < 1023) ∧ ∀ k : Nat, k < 1100 → inR M k → f k = true))
                case atStart => exact ⟨0, _, f, Nat.zero_le _, rfl, rfl, hI0⟩
                case round =>
                  obtain ⟨i, M, f, hi, hfu, rfl, hI⟩ := hrel
                  clear hI0
                  replace hfu := hidden hfu
                  rename World => w3
                  by_cases hik : i < ks.length
                  · have hik' : (i : Int) < (ks.length : Int) := by omega
                    obtain ⟨hW, hS, hM, hf⟩ := hI.out
                    obtain ⟨z, hget⟩ : ∃ t, ks[i]? = some t := ⟨_, List.getElem?_eq_getElem hik⟩
                    obtain ⟨p0, hpg, hz0, hp0, hpm, hpin, hS2⟩ := stepA_step hS hget
                    obtain ⟨p, rfl⟩ := nat_of hp0
                    obtain ⟨z, rfl⟩ := nat_of hz0
                    have hz2 := hz.out _ (List.mem_iff_getElem?.2 ⟨i, hget⟩)
                    have hpe := hM _ (hpin ((p : Int) + max (z : Int) 1 - 1) (by omega) (by omega))
                    have hne : ks ≠ [] := by rintro rfl; simp at hik
                    have hneP : P ≠ [] := by rintro rfl; rw [List.length_nil] at hPl; omega
                    obtain ⟨hs3, hs4, hs5⟩ := hs1.out hne
                    obtain ⟨hp3, hp4, hp5⟩ := hp1.out hneP
                    obtain ⟨rfl, -, rfl⟩ := Value.slice.inj hs3
                    obtain ⟨rfl, -, rfl⟩ := Value.slice.inj hp3
                    have f0 := hidden (fun (wx : World) (fx : Nat → Bool) (hx : Wipe w7 g 1100 wx fx) => And.intro ((hx.other hs5 (by omega) i).trans (hs2.out i _ hget)) ((hx.other hp5 (by omega) i).trans (hp2.out i _ hpg)))
                    obtain ⟨g0, g1⟩ := f0.out w3 f hW
                    have k1 : ¬ (p : Int) < 0 := by omega
                    have k2 : (p : Int).tmod 16 = 0 := by rw [Int.tmod_eq_emod_of_nonneg (by omega)]; exact hpm
                    have k3 : ¬ 1024 < (p : Int) + (z : Int) := by omega
                    have k4 : p + z ≤ 1023 := by omega
                    have hW2 := hidden (fun n => hW.drawn n)
                    have hE0 := hidden (show ∀ k : Nat, k < 1100 → inR M k → ¬ (p ≤ k ∧ k < p) → f k = true from fun k h1 h2 _ => hf k h1 h2)
                    have hE1 := hidden (show ∀ k : Nat, p ≤ k → k < p + z → inR M k from fun k h1 h2 => hpin k (by omega) (by omega))
                    have hE2 := hidden (show StepA ks P (i + 1) (takeL M ((p : Int), upZ ((p : Int) + max (z : Int) 1))) ∧ (∀ k, inR (takeL M ((p : Int), upZ ((p : Int) + max (z : Int) 1))) k → inR M k ∧ k < 1023 ∧ ¬ ((p : Int) ≤ k ∧ k < (p : Int) + (z : Int))) from ⟨hS2, fun k hk => by
                      obtain ⟨h1, h2⟩ := (take_in _ _ _).1 hk
                      dsimp only at h2
                      have h3 := up_le ((p : Int) + max (z : Int) 1)
                      exact ⟨h1, hM k h1, by omega⟩⟩)
                    generalize takeL M ((p : Int), upZ ((p : Int) + max (z : Int) 1)) = M2 at hE2
                    replace hpm := hidden hpm
                    clear hI hW hS hM hf hpin hS2 hget hpg hs3 hp3 hpe
                    go_upto_region 27 with fail
                    go_quiet (fail)
                    have hW3 := hidden (hW2.out nq)
                    generalize w3.drewN nq = w4 at hW3 ⊢
                    obtain ⟨g2, g3⟩ := f0.out w4 f hW3.out
                    clear hW2 g0 g1
                    go_wp2_with fail
                    clear g2 g3
                    go_loopg [16] z (fun fu sk wr4 => ∃ (c : Nat) (f : Nat → Bool), p ≤ c ∧ c ≤ p + z ∧ fu = p + z - c ∧ sk = .int .i64 (c : Int) ∧ Hid (Wipe w7 g 1100 wr4 f ∧ ∀ k : Nat, k < 1100 → inR M k → ¬ (p ≤ k ∧ k < c) → f k = true))
                    case atStart => exact ⟨p, f, Nat.le_refl _, by omega, by omega, rfl, hidden ⟨hW3.out, hE0.out⟩⟩
                    case round =>
                      obtain ⟨c, f, hpc, hcz, hfu2, rfl, hI⟩ := hrel
                      replace hfu2 := hidden hfu2
                      rename World => w5
                      obtain ⟨hW, hf⟩ := hI.out
                      obtain ⟨g0, g1⟩ := f0.out w5 f hW
                      have hW2 := hidden (fun n => hW.drawn n)
                      replace hf := hidden hf
                      clear hI hW hW3 hE0
                      by_cases hcq : c < p + z
                      · have hcq' : (c : Int) < (p : Int) + (z : Int) := by omega
                        have hc11 : c < 1100 := by omega
                        go_upto_region 30 with fail
                        go_quiet (fail)
                        have hW3 := hW2.out nq
                        generalize w5.drewN nq = w6 at hW3 ⊢
                        have hcell := hW3.arr.cell c hc11
                        rw [hf.out c hc11 (hE1.out c hpc hcq) (by omega)] at hcell
                        have hfz := hW3.arr.fz c
                        have hE := hidden (show Wipe w7 g 1100 (w6.setCell ⟨g, c, none⟩ (.bool false)) (fun j => if j = c then false else f j) ∧ ∀ k : Nat, k < 1100 → inR M k → ¬ (p ≤ k ∧ k < c + 1) → (if k = c then false else f k) = true from ⟨hW3.step c hc11, fun k h1 h2 h3 => by
                          rw [if_neg (by omega)]
                          exact hf.out k h1 h2 (by omega)⟩)
                        clear hW3 hf hW2 g0 g1
                        go_wp2
                        go_roundg (p + z - (c + 1))
                        case measure => rw [hfu2.out]; omega
                        case rel => exact ⟨c + 1, _, by omega, hcq, rfl, by go_num, hE⟩
                      · obtain rfl : c = p + z := by omega
                        go_upto_region 30 with fail
                        go_quiet (fail)
                        have hW3 := hW2.out nq
                        generalize w5.drewN nq = w6 at hW3 ⊢
                        have hE := hidden (show Wipe w7 g 1100 w6 f ∧ StepA ks P (i + 1) M2 ∧ (∀ k, inR M2 k → k < 1023) ∧ ∀ k : Nat, k < 1100 → inR M2 k → f k = true from ⟨hW3, hE2.out.1, fun k hk => (hE2.out.2 k hk).2.1, fun k h1 h2 => by
                          obtain ⟨h3, h4, h5⟩ := hE2.out.2 k h2
                          exact hf.out k h1 h3 (by omega)⟩)
                        clear hW3 hf hW2 g0 g1
                        go_wp2
                        go_roundg (ks.length - (i + 1))
                        case measure => rw [hfu.out]; omega
                        case rel => exact ⟨i + 1, M2, f, hik, rfl, by go_num, hE⟩
                  · obtain rfl : i = ks.length := by omega
                    have hB9 := hidden (hI.out.1.below w hB8.out (by rw [hg]; exact Nat.le_refl _) hg7)
                    clear hI
                    go_wp2_with (go_at_call 10; refine (kA.out _).mono ?_; rintro e w8 ⟨rfl, hBc⟩; have hBd := hidden (hB9.out.trans (hBc.mono hB9.out.size)))
                    go_ret
                    exact ⟨rfl, hBd.out⟩
end Go.Proofs.Ytfnfhabepadikaa
