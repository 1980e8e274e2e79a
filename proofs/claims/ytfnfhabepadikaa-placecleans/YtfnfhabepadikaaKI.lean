/- PlaceCleans. -/
import Derived.Test.YtfnfhabepadikaaKG
namespace Go.Proofs.Ytfnfhabepadikaa
open Go Go.RowKit
set_option maxRecDepth 100000

set_option maxHeartbeats 8000000 in
theorem placeCleans_calls (l : List Rg) (y : Int) (w : World) (v : Value) (hv : RgAt w v l) : Calls Try.prog 8 #[v, .int .i64 y] w fun e w' => e = .returned (.bool true) ∧ Below w.heap.size w w' := by
  have kA := hidden (fun wx => awake_calls wx)
  obtain ⟨t0, ht, ht0, ht1⟩ := and_of y 255 (by omega) (by omega)
  obtain ⟨T, rfl⟩ := nat_of ht0
  obtain ⟨a0, cap, rfl, hcap, hc⟩ := hv
  replace hc := hidden hc
  obtain ⟨Z, hZ⟩ : ∃ Z, Array.replicate 1100 (Value.bool false) = Z := ⟨_, rfl⟩
  have z0 := zero1100 w
  rw [hZ] at z0
  obtain ⟨g, hg⟩ : ∃ g, w.heap.size = g := ⟨_, rfl⟩
  have hF0 := hidden (show Fill w g 1100 1086 0 (w.alloc (.cells Z 41)) (.slice none 0 0) [] from by
    have b0 := bAt_new w 1100 41
    rw [hZ] at b0
    subst hg
    exact ⟨RgOwn.nil _ _, rfl, (fun a h => by cases h), ⟨_, b0, tells_nil _⟩, box_new _ _⟩)
  obtain ⟨n, hn⟩ : ∃ n : Nat, min (l.length : Int) 12 = (n : Int) := nat_of (by omega)
  have hn2 : n ≤ 12 ∧ n ≤ l.length := by omega
  go_enter Try.func8, Try.ntmps8
  go_wp2_with fail
  generalize w.alloc (.cells Z 41) = w1 at hF0 ⊢
  clear z0 hZ
  replace hn := hidden hn
  go_loopg [5, 9] n (fun fu sa si wr => ∃ (i : Nat) (L : List Rg), i ≤ n ∧ fu = n - i ∧ si = .int .i64 (i : Int) ∧ Hid (Fill w g 1100 1086 i wr sa L))
  case atStart => exact ⟨0, [], Nat.zero_le _, rfl, rfl, hF0⟩
  case round =>
    obtain ⟨i, L, hi, hfu, rfl, hI⟩ := hrel
    clear hF0
    replace hfu := hidden hfu
    by_cases hin : i < n
    · have hin' : (i : Int) < (n : Int) := by omega
      have h1 : i < l.length := by omega
      have h1c : (i : Int) < (l.length : Int) := by omega
      have hFill := hI.out
      obtain ⟨b, off, rfl, hbl, hx⟩ := hc.out (by rintro rfl; simp at h1)
      obtain ⟨⟨lx, ly⟩, hget⟩ : ∃ t, l[i]? = some t := ⟨_, List.getElem?_eq_getElem h1⟩
      obtain ⟨f0, f1⟩ := hx i _ hget
      dsimp only at f0 f1
      replace f0 := ((hFill.bel.mono (Nat.le_refl _)).cell (p := ⟨b, off + i * 2, none⟩) (by rw [← hg]; exact hbl)).trans f0
      replace f1 := ((hFill.bel.mono (Nat.le_refl _)).cell (p := ⟨b, off + i * 2 + 1, none⟩) (by rw [← hg]; exact hbl)).trans f1
      obtain ⟨p0, hp, hp0, hp1⟩ := and_of lx 1023 (by omega) (by omega)
      obtain ⟨d0, hd, hd0, hd1⟩ := and_of ly 63 (by omega) (by omega)
      obtain ⟨p, rfl⟩ := nat_of hp0
      obtain ⟨d, rfl⟩ := nat_of hd0
      obtain ⟨Q, hQ⟩ : ∃ Q : Nat, (p : Int) + (d : Int) = (Q : Int) := ⟨p + d, by omega⟩
      have hpQ : p ≤ Q ∧ Q ≤ 1086 := by omega
      clear hx hget
      go_upto_region 8 with fail
      have hbx := box_at wr p 0
      have hBn := hidden (box_new wr (Obj.cells #[Value.int .i64 (p : Int), Value.int .i64 0] 25))
      have hbw : b < wr.heap.size := Nat.lt_of_lt_of_le (by rw [hg] at hbl; exact Nat.lt_of_lt_of_le hbl (Nat.le_refl _)) (Nat.le_of_lt hFill.gt)
      replace f1 := (hBn.out.cell (p := ⟨b, off + i * 2 + 1, none⟩) hbw).trans f1
      generalize wr.alloc (Obj.cells #[Value.int .i64 (p : Int), Value.int .i64 0] 25) = w2 at hbx hBn f1 ⊢
      obtain ⟨bx, hbxe⟩ : ∃ bx, wr.heap.size = bx := ⟨_, rfl⟩
      rw [hbxe] at hbx
      have e0 := hbx.c0
      have e1 := hbx.c1
      have e2 := hbx.fz 1
      have hB3 := hidden (show Below wr.heap.size wr (w2.setCell ⟨bx, 1, none⟩ (.int .i64 (Q : Int))).drew from (hBn.out.setCell (p := ⟨bx, 1, none⟩) (by rw [hbxe]; exact Nat.le_refl _) _).drew)
      have hbx3 := hidden (hbx.set1 (Q : Int))
      clear f0
      rw [hbxe]
      go_region
      generalize (w2.setCell ⟨bx, 1, none⟩ (.int .i64 (Q : Int))).drew = w3 at hB3 hbx3 ⊢
      obtain ⟨v4, w4, hrun, hO4, ⟨f, hf4, ht4⟩, hB4, hs4, hk4⟩ := hFill.push hB3.out (by omega) p Q
      have hbx4 := hidden (hbx3.out.heap (hk4 bx (by omega) hbx3.out.lt))
      have c0 := hbx3.out.c0
      have c1 := hbx3.out.c1
      have d0 := hbx4.out.c0
      have hM0 := hidden (show Mid w g 1100 1086 i w4 w4 v4 L (p : Int) (p : Int) (Q : Int) from ⟨hO4, hFill.len, hFill.small, Apart.refl _ _, ⟨f, hf4, tells_begin ht4 _⟩, hB4⟩)
      have hne : ¬ bx = g := by have := hFill.gt; omega
      have hg4 := hidden (hf4.lt)
      replace hrun := hidden hrun
      clear hO4 hf4 ht4 hB4 hs4 hk4 hB3 hbx3 e0 e1 e2 f1 hbx hBn hFill hI
      replace hQ := hidden hQ
      go_wp2_with (at_builtin; refine wpList_append_eq _ _ 22 rfl _ _ v4 w4 rfl rfl hrun.out rfl ?_)
      clear hrun c0 c1 d0
      go_loopg [11] (Q - p) (fun fu sk wr2 => ∃ c : Nat, p ≤ c ∧ c ≤ Q ∧ fu = Q - c ∧ sk = .int .i64 (c : Int) ∧ Hid (Mid w g 1100 1086 i w4 wr2 v4 L (p : Int) (c : Int) (Q : Int)))
      case atStart => exact ⟨p, Nat.le_refl _, hpQ.1, rfl, rfl, hM0⟩
      case round =>
        obtain ⟨c, hpc, hcQ, hfu2, rfl, hM⟩ := hrel
        clear hM0
        replace hfu2 := hidden hfu2
        rename World => wr2
        have hbx5 := hbx4.out.apart hM.out.ap (by simpa using hne)
        have c0 := hbx5.c0
        have c1 := hbx5.c1
        clear hbx5
        by_cases hcq : c < Q
        · have hcq' : (c : Int) < (Q : Int) := by omega
          have hc15 : c < 1100 := by omega
          obtain ⟨bb, hcell⟩ := hM.out.cell c hc15
          have hfz := hM.out.fz c
          have hE := hidden (hM.out.step (by omega) hc15)
          clear hM
          go_wp2
          go_roundg (Q - (c + 1))
          case measure => rw [hfu2.out]; omega
          case rel => exact ⟨c + 1, by omega, hcq, rfl, by go_num, hE⟩
        · obtain rfl : c = Q := by omega
          have hE := hidden (hM.out.end (by omega) (by omega) (by omega) rfl hg4.out)
          clear hM
          go_wp2
          go_roundg (n - (i + 1))
          case measure => rw [hfu.out]; omega
          case rel => exact ⟨i + 1, _, by omega, rfl, by go_num, hE⟩
    · obtain rfl : i = n := by omega
      clear hc hin
      have hFill := hI.out
      have hLl := hFill.len
      have hl32 : L.length ≤ 32 := by omega
      have hokL := hFill.small.ok (by omega) hl32
      obtain ⟨f, hf, htl⟩ := hFill.tell
      have hB := hidden (show Below w.heap.size w wr by rw [hg]; exact hFill.bel)
      have hgl := hFill.gt
      have hf5 := hidden (fun (wx : World) (hx : Below wr.heap.size wr wx) => hf.below hx)
      have hO5 := hidden (fun (wx : World) (hx : Below wr.heap.size wr wx) => hFill.own.at.below hx)
      have hTl := hidden (show ∀ k : Nat, k < 1100 → (f k = true ↔ inR (cleanL L) (k : Int)) from fun k hk => (htl k hk).trans ((cleanL_is hokL).2 k).symm)
      have hCb := hidden (hFill.small.cleanB (by omega) hl32)
      replace hokL := hidden hokL
      replace hLl := hidden hLl
      clear hI hFill hf htl hfu
      go_wp2_with fail
      go_loopg [6, 12] i (fun fu vs sj wr2 => ∃ (j : Nat) (K : List Rg), j ≤ i ∧ fu = i - j ∧ sj = .int .i64 (j : Int) ∧ Hid (RgOwn wr.heap.size wr2 vs K ∧ Below wr.heap.size wr wr2 ∧ K.length = j ∧ ∀ k, k < j → K[k]? = L[(k + T) % i]?))
      case atStart => exact ⟨0, [], Nat.zero_le _, rfl, rfl, hidden ⟨RgOwn.nil _ _, Below.refl _ _, rfl, fun k hk => by omega⟩⟩
      case round =>
        obtain ⟨j, K, hj, hfu, rfl, hI⟩ := hrel
        replace hfu := hidden hfu
        rename World => w2
        obtain ⟨hK, hB2, hKl, hKg⟩ := hI.out
        by_cases hji : j < i
        · have hji' : (j : Int) < (i : Int) := by omega
          obtain ⟨m, hm⟩ : ∃ m, (j + T) % i = m := ⟨_, rfl⟩
          have hmi : m < i := by rw [← hm]; exact Nat.mod_lt _ (by omega)
          obtain ⟨⟨x, z⟩, hget⟩ : ∃ t, L[m]? = some t := ⟨_, List.getElem?_eq_getElem (by rw [hLl.out]; exact hmi)⟩
          have hmod : ((j : Int) + (T : Int)).tmod (i : Int) = (m : Int) := by
            rw [Int.tmod_eq_emod_of_nonneg (by omega), ← hm, ← Int.natCast_add]; rfl
          have hi0 : (i : Int) ≠ 0 := by omega
          obtain ⟨v3, w3, hrun, hK3, hB3, -⟩ := hK.push0 hB2.size (by omega) x z
          have hE := hidden (show RgOwn wr.heap.size w3 v3 (K ++ [(x, z)]) ∧ Below wr.heap.size wr w3 ∧ (K ++ [(x, z)]).length = j + 1 ∧ ∀ k, k < j + 1 → (K ++ [(x, z)])[k]? = L[(k + T) % i]? from ⟨hK3, hB2.trans hB3, by simp [hKl], fun k hk => by
            rcases Nat.lt_or_ge k j with h | h
            · rw [List.getElem?_append_left (by omega)]; exact hKg k h
            · obtain rfl : k = j := by omega
              rw [List.getElem?_append_right (by omega), hKl, Nat.sub_self, hm, hget]; rfl⟩)
          obtain ⟨b5, off5, cap5, rfl, -, -, hx⟩ := (hO5.out w2 hB2).get (by rintro rfl; simp at hget)
          obtain ⟨f0, f1⟩ := hx m _ hget
          have hLi : (m : Int) < (L.length : Int) := by have := hLl.out; omega
          dsimp only at f0 f1
          replace hrun := hidden hrun
          replace hm := hidden hm
          clear hx hI hK hB2 hKl hKg hK3 hB3 hget hO5
          go_wp2_with (at_builtin; refine wpList_append_eq _ _ 22 rfl _ _ v3 w3 rfl rfl hrun.out rfl ?_)
          go_roundg (i - (j + 1))
          case measure => rw [hfu.out]; omega
          case rel => exact ⟨j + 1, _, hji, rfl, by go_num, hE⟩
        · obtain rfl : j = i := by omega
          have kC := hidden (clean_own L w2 u5 (hO5.out w2 hB2) (by omega))
          have hCK := hidden (show cleanL K = cleanL L from clean_turn hLl.out hKl hKg hokL.out)
          have hCC := hidden (clean_clean L)
          have hCc := hidden (cleanL_cln L)
          have hCl := hidden (cleanL_len L)
          have hKo := hidden (fun (wx : World) (hx : Below w2.heap.size w2 wx) => hK.below hx)
          have hB6 := hidden (hB.out.trans (hB2.mono hB.out.size))
          have hf6 := hidden (fun (wx : World) (hx : Below w2.heap.size w2 wx) => hf5.out wx (hB2.trans (hx.mono hB2.size)))
          have hgl2 : g < w2.heap.size := Nat.lt_of_lt_of_le hgl hB2.size
          have hKl2 : K.length ≤ 100000 := by omega
          replace hKl2 := hidden hKl2
          clear hI hK hB2 hKl hKg hB hO5 hf5 hokL hLl hfu hl32
          generalize cleanL L = C at *
          go_wp2_with fail
          refine kC.out.mono ?_
          rintro e w7 ⟨⟨v7, rfl, hO7⟩, hB7⟩
          have hB8 := hidden (hB6.out.trans (hB7.mono hB6.out.size))
          have hg7 : g < w7.heap.size := Nat.lt_of_lt_of_le hgl2 hB7.size
          have hI0 := hidden (show Wipe w7 g 1100 w7 f ∧ ∀ k : Nat, k < 1100 → (f k = true ↔ inR (C.drop 0) (k : Int)) from ⟨⟨Apart.refl _ _, hf6.out w7 hB7⟩, hTl.out⟩)
          have hK7 := hidden (fun (wx : World) (fx : Nat → Bool) (hx : Wipe w7 g 1100 wx fx) => ((hKo.out w7 hB7).keep hx.ap (by simpa using hgl)).at)
          have hA7 := hidden (fun (wx : World) (fx : Nat → Bool) (hx : Wipe w7 g 1100 wx fx) => (hO7.keep hx.ap (by simpa using hgl2)).at)
          obtain ⟨bc, hs1, hs2⟩ := hO7.cells
          obtain ⟨a7, cap7, rfl⟩ := hO7.form
          replace hs1 := hidden hs1
          replace hs2 := hidden hs2
          clear hO7 hB7 hKo hf6 hTl kC hB6
          go_wp2_with fail
          go_loopg [14] C.length (fun fu si wr3 => ∃ (m : Nat) (f : Nat → Bool), m ≤ C.length ∧ fu = C.length - m ∧ si = .int .i64 (m : Int) ∧ Hid (Wipe w7 g 1100 wr3 f ∧ ∀ k : Nat, k < 1100 → (f k = true ↔ inR (C.drop m) (k : Int))))
          case atStart => exact ⟨0, f, Nat.zero_le _, rfl, rfl, hI0⟩
          case round =>
            obtain ⟨m, f, hm, hfu, rfl, hI⟩ := hrel
            clear hI0
            replace hfu := hidden hfu
            rename World => w3
            by_cases hmc : m < C.length
            · have hmc' : (m : Int) < (C.length : Int) := by omega
              have hm32 : m ≤ 32 := by have := hCl.out; omega
              obtain ⟨hW, hf⟩ := hI.out
              obtain ⟨⟨p0, q0⟩, hget⟩ : ∃ t, C[m]? = some t := ⟨_, List.getElem?_eq_getElem hmc⟩
              obtain ⟨hb1, hb2, hb3⟩ := hCb.out _ (List.mem_iff_getElem?.2 ⟨m, hget⟩)
              dsimp only at hb1 hb2 hb3
              obtain ⟨p, rfl⟩ := nat_of hb1
              obtain ⟨q, rfl⟩ := nat_of (show 0 ≤ q0 by omega)
              have hne : C ≠ [] := by rintro rfl; simp at hmc
              obtain ⟨capc, hs3, hs4, hs5⟩ := hs1.out hne
              obtain ⟨rfl, -, rfl⟩ := Value.slice.inj hs3
              have f0 := hidden (fun (wx : World) (fx : Nat → Bool) (hx : Wipe w7 g 1100 wx fx) (k : Nat) (t : Rg) (hk : C[k]? = some t) => And.intro ((hx.other hs5 (by omega) (k * 2)).trans (hs2.out k t hk).1) ((hx.other hs5 (by omega) (k * 2 + 1)).trans (hs2.out k t hk).2))
              have hE1 := hidden (show ∀ k : Nat, p ≤ k → k < q → inR (C.drop m) (k : Int) from fun k h1 h2 => ⟨((p : Int), (q : Int)), List.mem_iff_getElem?.2 ⟨0, by rw [List.getElem?_drop]; exact hget⟩, by dsimp only; omega, by dsimp only; omega⟩)
              have hE2 := hidden (fun k => drop_in hCc.out hget k)
              obtain ⟨g0, g1⟩ := f0.out w3 f hW m _ hget
              dsimp only at g0 g1
              have k1 : ¬ (q : Int) ≤ (p : Int) := by omega
              go_upto_region 22 with fail
              go_cut [109] from 81 to 109 (fun v wx => v = .bool false ∧ ∃ nq, wx = w3.drewN nq)
              case first =>
                rcases m with _ | m'
                · go_quiet (fail)
                  go_wp2
                  go_meet
                  case rel => exact ⟨rfl, _, rfl⟩
                · obtain ⟨⟨x, z⟩, hget2⟩ : ∃ t, C[m']? = some t := ⟨_, List.getElem?_eq_getElem (by omega)⟩
                  have k2 := cln_pair hCc.out hget2 hget
                  dsimp only at k2
                  have k3 : ¬ (p : Int) ≤ z := by omega
                  have g2 := (f0.out w3 f hW m' _ hget2).2
                  dsimp only at g2
                  go_quiet (fail)
                  go_wp2
                  go_meet
                  case rel => exact ⟨rfl, _, rfl⟩
              case rest =>
                obtain ⟨rfl, nq, rfl⟩ := hcut
                have hW3 := hidden (hW.drawn nq)
                generalize w3.drewN nq = w4 at hW3 ⊢
                obtain ⟨g2, g3⟩ := f0.out w4 f hW3.out m _ hget
                dsimp only at g2 g3
                clear g0 g1
                have hE0 := hidden (show ∀ k : Nat, k < 1100 → (f k = true ↔ inR (C.drop m) (k : Int) ∧ ¬ (p ≤ k ∧ k < p)) from fun k h1 => (hf k h1).trans ⟨fun h => ⟨h, by omega⟩, fun h => h.1⟩)
                clear hI hW hf
                go_wp2_with fail
                clear g2 g3
                go_loopg [15] (q - p) (fun fu sk wr4 => ∃ (c : Nat) (f : Nat → Bool), p ≤ c ∧ c ≤ q ∧ fu = q - c ∧ sk = .int .i64 (c : Int) ∧ Hid (Wipe w7 g 1100 wr4 f ∧ ∀ k : Nat, k < 1100 → (f k = true ↔ inR (C.drop m) (k : Int) ∧ ¬ (p ≤ k ∧ k < c))))
                case atStart => exact ⟨p, f, Nat.le_refl _, by omega, rfl, rfl, hidden ⟨hW3.out, hE0.out⟩⟩
                case round =>
                  obtain ⟨c, f, hpc, hcq0, hfu2, rfl, hI⟩ := hrel
                  replace hfu2 := hidden hfu2
                  rename World => w5
                  obtain ⟨hW, hf⟩ := hI.out
                  obtain ⟨g0, g1⟩ := f0.out w5 f hW m _ hget
                  dsimp only at g0 g1
                  replace hf := hidden hf
                  clear hI hW3 hE0
                  by_cases hcq : c < q
                  · have hcq' : (c : Int) < (q : Int) := by omega
                    have hc11 : c < 1100 := by omega
                    have hcell := hW.arr.cell c hc11
                    rw [(hf.out c hc11).2 ⟨hE1.out c hpc hcq, by omega⟩] at hcell
                    have hfz := hW.arr.fz c
                    have hE := hidden (show Wipe w7 g 1100 (w5.setCell ⟨g, c, none⟩ (.bool false)) (fun j => if j = c then false else f j) ∧ ∀ k : Nat, k < 1100 → ((if k = c then false else f k) = true ↔ inR (C.drop m) (k : Int) ∧ ¬ (p ≤ k ∧ k < c + 1)) from ⟨hW.step c hc11, fun k h1 => by
                      by_cases e : k = c
                      · rw [if_pos e]; simp; intro _; omega
                      · rw [if_neg e, hf.out k h1]
                        refine and_congr Iff.rfl ?_
                        omega⟩)
                    clear hW hf
                    go_wp2
                    go_roundg (q - (c + 1))
                    case measure => rw [hfu2.out]; omega
                    case rel => exact ⟨c + 1, _, by omega, hcq, rfl, by go_num, hE⟩
                  · obtain rfl : c = q := by omega
                    have hcq' : ¬ (c : Int) < (c : Int) := by omega
                    have hE := hidden (show Wipe w7 g 1100 w5 f ∧ ∀ k : Nat, k < 1100 → (f k = true ↔ inR (C.drop (m + 1)) (k : Int)) from ⟨hW, fun k h1 => by
                      rw [hf.out k h1, hE2.out]
                      refine and_congr Iff.rfl ?_
                      omega⟩)
                    clear hW hf
                    go_wp2
                    go_roundg (C.length - (m + 1))
                    case measure => rw [hfu.out]; omega
                    case rel => exact ⟨m + 1, f, hmc, rfl, by go_num, hE⟩
            · obtain rfl : m = C.length := by omega
              obtain ⟨hW, hf⟩ := hI.out
              have hcell := hidden (show ∀ k : Nat, k < 1100 → w3.cell? ⟨g, k, none⟩ = some (.bool false) from fun k hk => by
                rw [hW.arr.cell k hk]
                cases hfk : f k
                · rfl
                · have := (hf k hk).1 hfk
                  rw [List.drop_length] at this
                  exact absurd this (inR_nil _))
              have hA8 := hidden (hA7.out w3 f hW)
              have hAx := hidden (fun (wx : World) (hx : Below w3.heap.size w3 wx) => hA8.out.below hx)
              have kC1 := hidden (show Calls Try.prog 16 #[u6] w3 fun e w' => (∃ v, e = .returned v ∧ RgAt w' v C) ∧ Below w3.heap.size w3 w' by
                have := clean_calls K w3 u6 (hK7.out w3 f hW) hKl2.out
                rwa [hCK.out] at this)
              have hB9 := hidden (hW.below w hB8.out (by rw [hg]; exact Nat.le_refl _) hg7)
              clear hI hW hf hA7 hA8 hK7
              go_wp2_with fail
              go_loopg [16] 1100 (fun fu sk wr4 => ∃ c : Nat, c ≤ 1100 ∧ fu = 1100 - c ∧ sk = .int .i64 (c : Int) ∧ wr4 = w3)
              case atStart => exact ⟨0, Nat.zero_le _, rfl, rfl, rfl⟩
              case round =>
                obtain ⟨c, hc11, hfu2, rfl, rfl⟩ := hrel
                replace hfu2 := hidden hfu2
                rename World => w3
                by_cases hcq : c < 1100
                · have hcq' : (c : Int) < 1100 := by omega
                  have f0 := hcell.out c hcq
                  go_wp2
                  go_roundg (1100 - (c + 1))
                  case measure => rw [hfu2.out]; omega
                  case rel => exact ⟨c + 1, by omega, rfl, by go_num, rfl⟩
                · obtain rfl : c = 1100 := by omega
                  have hsame := hidden (fun (wx : World) (va : Value) (h1 : RgAt wx va C) (h2 : Below w3.heap.size w3 wx) => (show Calls Try.prog 15 #[va, .slice a7 C.length cap7] wx fun e w' => e = .returned (.bool true) ∧ Below wx.heap.size wx w' by
                    have := same_calls C C wx va _ h1 (hAx.out wx h2) (by have := hCl.out; omega) (by have := hCl.out; omega)
                    rwa [show decide (C = C) = true from decide_eq_true rfl] at this))
                  have hclean := hidden (fun (wx : World) (h2 : Below w3.heap.size w3 wx) => (show Calls Try.prog 16 #[.slice a7 C.length cap7] wx fun e w' => (∃ v, e = .returned v ∧ RgAt w' v C) ∧ Below wx.heap.size wx w' by
                    have := clean_calls C wx _ (hAx.out wx h2) (by have := hCl.out; omega)
                    rwa [hCC.out] at this))
                  clear hAx hcell
                  go_wp2_with (first
                    | (go_at_call 16; refine kC1.out.mono ?_; rintro e wa ⟨⟨va, rfl, hAa⟩, hBa⟩; have hS1 := hidden (hsame.out wa va hAa hBa); replace hBa := hidden hBa; clear hAa kC1)
                    | (go_at_call 15; refine hS1.out.mono ?_; rintro e wb ⟨rfl, hBb⟩; have hBb2 := hidden (hBa.out.trans (hBb.mono hBa.out.size)); have kC2 := hidden (hclean.out wb hBb2.out); clear hBb hS1 hBa)
                    | (go_at_call 16; refine kC2.out.mono ?_; rintro e wc ⟨⟨vc, rfl, hAc⟩, hBc⟩; have hBc2 := hidden (hBb2.out.trans (hBc.mono hBb2.out.size)); have hS2 := hidden (hsame.out wc vc hAc hBc2.out); clear hAc hBc kC2 hBb2)
                    | (go_at_call 15; refine hS2.out.mono ?_; rintro e wd ⟨rfl, hBd⟩; have hBd2 := hidden (hBc2.out.trans (hBd.mono hBc2.out.size)); clear hBd hS2 hBc2)
                    | (go_at_call 10; refine (kA.out _).mono ?_; rintro e we ⟨rfl, hBe⟩; have hBe2 := hidden (hBd2.out.trans (hBe.mono hBd2.out.size)); clear hBe hBd2))
                  go_ret
                  exact ⟨rfl, hB9.out.trans (hBe2.out.mono hB9.out.size)⟩
end Go.Proofs.Ytfnfhabepadikaa
