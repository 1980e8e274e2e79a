/- AllocLeast, walked. -/
import Derived.Test.YtildpgingcmfcaaDoorAm9
import Derived.Deep.CutBlock
namespace Go.Proofs.YtildpgingcmfcaaDoor
open Go.RowKit Go.Extern.Stop Go.Stop Go.Extern Go.Shelf
set_option maxRecDepth 100000

/-- A list of ints that was handed in. -/
def IntsAt (w : World) (v : Value) (zs : List Int) : Prop :=
  ∃ a cap, v = .slice a zs.length cap ∧ zs.length ≤ maxLen ∧ (zs ≠ [] → ∃ b off, a = some ⟨b, off, none⟩ ∧ b < w.heap.size ∧ ∀ k, k < zs.length → w.cell? ⟨b, off + k, none⟩ = some (.int .i64 (zs.getD k 0)))
theorem freeN_give {S : Nat → Bool} {K k : Nat} (hk : k < K) (h : S k = true) : freeN (setS S k false) K = freeN S K + 1 := by
  induction K with
  | zero => omega
  | succ K ih =>
    rw [freeN_succ, freeN_succ]
    by_cases e : k = K
    · subst e
      rw [freeN_congr (S := setS S k false) (T := S) k (fun i hi => by unfold setS; rw [if_neg (by omega)]), h]
      simp [setS]
    · rw [ih (by omega)]
      have : setS S k false K = S K := by unfold setS; rw [if_neg (by omega)]
      rw [this]
      omega
theorem freeN_take {S : Nat → Bool} {K k : Nat} (hk : k < K) (h : S k = false) : freeN S K = freeN (setS S k true) K + 1 := by
  have h1 := freeN_give (S := setS S k true) hk (by simp [setS])
  rw [← h1]
  refine freeN_congr K fun i _ => ?_
  unfold setS
  by_cases e : i = k
  · subst e; simp [h]
  · simp [e]
theorem freeN_zero {S : Nat → Bool} {K : Nat} (h : freeN S K = 0) (j : Nat) (hj : j < K) : S j = true := by
  unfold freeN at h
  have := List.countP_eq_zero.1 h j (List.mem_range.2 hj)
  simpa using this
theorem freeN_some {S : Nat → Bool} : ∀ {K : Nat}, 0 < freeN S K → ∃ i, i < K ∧ S i = false ∧ ∀ j, j < i → S j = true
  | 0, h => by simp [freeN] at h
  | K + 1, h => by
    rcases Nat.eq_zero_or_pos (freeN S K) with e | e
    · refine ⟨K, by omega, ?_, fun j hj => freeN_zero e j hj⟩
      rw [freeN_succ, e] at h
      cases hS : S K with
      | false => rfl
      | true => rw [hS] at h; simp at h
    · obtain ⟨i, hi, h1, h2⟩ := freeN_some e
      exact ⟨i, by omega, h1, h2⟩
theorem not_set (S : Nat → Bool) (k : Nat) (b : Bool) : (fun j => !setS S k b j) = setS (fun j => !S j) k (!b) := by
  funext j
  unfold setS
  split <;> rfl
theorem set_same {S : Nat → Bool} {k : Nat} {b : Bool} (h : S k = b) : setS S k b = S := by
  funext j
  unfold setS
  split
  · rename_i e; rw [e, h]
  · rfl
/-- A Map of thirty, and the statement's array, which says the contrary. -/
structure LSt (w0 : World) (d g jb cb mb ab sb n : Nat) (w : World) : Prop where
  ex : ∃ S, DSt w0 d g jb cb mb ab sb 0 20 30 S (fun j => !S j) w ∧ freeN S 30 = n
abbrev none30 : Array Value := #[.bool false, .bool false, .bool false, .bool false, .bool false, .bool false, .bool false, .bool false, .bool false, .bool false, .bool false, .bool false, .bool false, .bool false, .bool false, .bool false, .bool false, .bool false, .bool false, .bool false, .bool false, .bool false, .bool false, .bool false, .bool false, .bool false, .bool false, .bool false, .bool false, .bool false]
theorem none30_get (j : Nat) (hj : j < 30) : none30[j]? = some (.bool false) := by
  have : none30 = Array.replicate 30 (.bool false) := rfl
  rw [this]
  simp [hj]
theorem LSt.more {w0 : World} {d g jb cb mb ab sb n : Nat} {w w' : World} (h : LSt w0 d g jb cb mb ab sb n w) (hb : Below w.heap.size w w') : LSt w0 d g jb cb mb ab sb n w' := by
  obtain ⟨S, h1, h2⟩ := h.ex
  exact ⟨S, h1.more hb, h2⟩
theorem LSt.below {w0 : World} {d g jb cb mb ab sb n : Nat} {w : World} (h : LSt w0 d g jb cb mb ab sb n w) : Below w0.heap.size w0 w := by
  obtain ⟨S, h1, h2⟩ := h.ex
  exact h1.a.below
set_option maxHeartbeats 8000000 in
theorem allocLeast_calls (v : Value) (zs : List Int) (w : World) (hv : IntsAt w v zs) (hG : Ground w) (hGT : GT w) :
    Calls Tryd.prog 3 #[v] w fun e w' => e = .returned (.bool true) ∧ Below w.heap.size w w' := by
  have hmd := hidden (made7_calls w hG)
  have kA := hidden (fun (wx : World) (hx : Below w.heap.size w wx) => awake7_calls wx (hG.below hx))
  have kN := hidden (fun (n : Int) (wx : World) (hx : Below w.heap.size w wx) (b : Nat) (nm : ByteArray) (hc : Chain wx [(sAlloc, nm)] (num n) (flt b)) => law_num n wx [(sAlloc, nm)] (flt b) hc (hGT.below hx))
  have hV := hidden hv
  obtain ⟨a, vcap, rfl, hmax, -⟩ := hv
  have hmax2 : (zs.length : Int) ≤ 9223372036854775807 := by unfold maxLen at hmax; omega
  clear hG hGT hmax
  go_enter Tryd.func3, Tryd.ntmps3
  go_wp2_with fail
  refine (hmd.out).mono ?_
  rintro ev w1 ⟨jb, cb, mb, rfl, hC1⟩
  have hNw := hidden (ast_new hC1 0 20 30 (by omega) (by omega) (by omega) (by omega))
  clear hmd hC1
  go_wp2_with fail
  refine (hNw.out).mono ?_
  rintro ev w2 ⟨rfl, hA2, -⟩
  replace hA2 := hidden (hA2.congr (S' := firstS 0) (fun i _ => by simp [firstS]))
  generalize w1.heap.size = ab at hA2 ⊢
  clear hNw
  generalize hd : w.heap.size + 1 = d at hA2 ⊢
  clear hd
  go_wp2_with fail
  go_loopg [7] 31 (fun gk q wr => ∃ i : Nat, i ≤ 30 ∧ gk = 31 - i ∧ q = .int .i64 i ∧ Hid (ASt w d w.heap.size jb cb mb ab 0 20 30 (firstS i) wr))
  case atStart => exact ⟨0, by omega, rfl, rfl, hA2⟩
  case round =>
    obtain ⟨i, hi, hgk, rfl, hI⟩ := hrel
    replace hgk := hidden hgk
    clear hA2
    by_cases hlt : i < 30
    · have hT := hidden (hI.out.take i hlt (by simp [firstS]) (fun j hj => by simp [firstS]; omega))
      go_wp2_with fail
      refine (hT.out).mono ?_
      rintro ev w3 ⟨rfl, hI3, -⟩
      rw [firstS_succ] at hI3
      replace hI3 := hidden hI3
      clear hT hI
      go_wp2
      go_roundg (31 - (i + 1))
      case measure => rw [hgk.out]; omega
      case rel => exact ⟨i + 1, hlt, rfl, by go_num, hI3⟩
    · obtain rfl : i = 30 := by omega
      have hlts := hI.out.lts
      have hL0 : LSt w d w.heap.size jb cb mb ab wr.heap.size 0 (wr.alloc (.cells none30 34)) := by
        have hB3 : Below wr.heap.size wr (wr.alloc (.cells none30 34)) := (Below.refl _ _).alloc (Nat.le_refl _) _
        refine ⟨firstS 30, ⟨hI.out.more hB3, ⟨fun j hj => ?_, fun j hj => by simp⟩, hlts⟩, freeN_first 30 30 (by omega)⟩
        rw [cells_new, none30_get j hj]
        simp [firstS, hj]
      replace hL0 := hidden hL0
      clear hI hlts
      go_upto_block 2 with fail
      generalize wr.alloc (.cells none30 34) = w3 at hL0 ⊢
      generalize wr.heap.size = sb at hL0 ⊢
      go_cut [11] (fun nv wx => ∃ n : Nat, nv = .int .i64 n ∧ n ≤ 30 ∧ LSt w d w.heap.size jb cb mb ab sb n wx)
      case first =>
        go_wp2_with fail
        go_loopg [11, 12] 41 (fun gk2 nv q wr2 => ∃ i2 n : Nat, i2 ≤ 40 ∧ gk2 = 41 - i2 ∧ nv = .int .i64 n ∧ q = .int .i64 i2 ∧ n ≤ 30 ∧ Hid (LSt w d w.heap.size jb cb mb ab sb n wr2))
        case atStart => exact ⟨0, 0, by omega, rfl, rfl, rfl, by omega, hL0⟩
        case round =>
          obtain ⟨i2, n, hi2, hgk2, rfl, rfl, hn30, hJ⟩ := hrel
          replace hgk2 := hidden hgk2
          clear hL0
          by_cases hlt2 : i2 < zs.length ∧ i2 < 40
          · have hl1 : (i2 : Int) < (zs.length : Int) := by omega
            have hl2 : (i2 : Int) < 40 := by omega
            obtain ⟨S, hD, hnS⟩ := hJ.out.ex
            obtain ⟨av, vc, hve, -, hcs⟩ := hV.out
            obtain ⟨rfl, -, -⟩ := Value.slice.inj hve
            obtain ⟨vb, off, rfl, hvb, hcell⟩ := hcs (by intro e; rw [e] at hlt2; simp at hlt2)
            have hci := (hJ.out.below.cell (p := ⟨vb, off + i2, none⟩) hvb).trans (hcell i2 hlt2.1)
            generalize zs.getD i2 0 = z at hci
            obtain ⟨m, hm, hm2⟩ : ∃ m : Nat, bits .and .i64 z 255 = (m : Int) ∧ m ≤ 255 := by
              have : 0 ≤ bits .and .i64 z 255 ∧ bits .and .i64 z 255 ≤ 255 := and_low z 255 (by omega)
              exact ⟨(bits .and .i64 z 255).toNat, by have := this.1; omega, by omega⟩
            obtain ⟨k, hk, hk2⟩ : ∃ k : Nat, (m : Int) % 30 = (k : Int) ∧ k < 30 := ⟨m % 30, by omega, by omega⟩
            have hxl := hidden hlt2
            replace hD := hidden hD
            replace hnS := hidden hnS
            clear hve hcs hcell hlt2 hvb
            cases hSk : S k with
            | true =>
              have hGv := hidden (hD.out.give k hk2 (20 + (k : Int)) (by omega) hSk)
              go_wp2_with fail
              refine (hGv.out).mono ?_
              rintro ev w4 ⟨rfl, hD4⟩
              have hc4 := hD4.s.cell k hk2
              have hf4 := hD4.s.free k hk2
              simp only [hSk, Bool.not_true] at hc4
              replace hD4 := hidden hD4
              clear hGv hD
              go_upto_region 20 with fail
              go_quiet (fail)
              go_wp2
              go_roundg (41 - (i2 + 1))
              case measure => rw [hgk2.out]; omega
              case rel =>
                have h1 := (hD4.out.more (below_drewN (Below.refl _ w4) nq)).put k hk2 true
                have h2 := freeN_give hk2 hSk
                have h3 := freeN_le (setS S k false) 30
                rw [hnS.out] at h2
                refine ⟨i2 + 1, n + 1, by have := hxl.out; omega, rfl, by go_num, by go_num, by omega, hidden ⟨setS S k false, ?_, h2⟩⟩
                rw [not_set]
                exact h1
            | false =>
              have hGv := hidden (hD.out.a.give7 k hk2 (20 + (k : Int)) (by omega) hSk)
              go_wp2_with fail
              refine (hGv.out).mono ?_
              rintro ev w4 ⟨b4, rfl, hch4, hB4⟩
              have hD4 := hD.out.more hB4
              have hc4 := hD4.s.cell k hk2
              simp only [hSk, Bool.not_false] at hc4
              have kN4 := hidden (fun wx (hx : Below w4.heap.size w4 wx) => kN.out 7 wx (hD4.a.below.trans (hx.mono hD4.a.below.size)) b4 _ (hch4.below hx))
              have hBd4 := hidden (below_drew1 w4)
              replace hD4 := hidden hD4
              clear hGv hD hch4 hB4
              go_upto_region 20 with fail
              go_cut [89] (fun x89 wx => x89 = .bool false ∧ Below w4.heap.size w4 wx)
              case first =>
                go_region_with (go_at_call 11; refine (kN4.out _ hBd4.out).mono ?_; rintro ev w5 ⟨rfl, hB5⟩; have hB5 := hidden (hBd4.out.trans (hB5.mono hBd4.out.size)))
                all_goals (go_wp2; go_meet; case rel => exact ⟨rfl, hB5.out⟩)
              case rest =>
                obtain ⟨rfl, hB5⟩ := hcut
                have hD5 := hD4.out.more hB5
                have hc5 := hD5.s.cell k hk2
                have hf5 := hD5.s.free k hk2
                simp only [hSk, Bool.not_false] at hc5
                replace hD5 := hidden hD5
                clear hD4 hB5 hc4
                go_wp2
                go_roundg (41 - (i2 + 1))
                case measure => rw [hgk2.out]; omega
                case rel =>
                  have h1 := hD5.out.put k hk2 true
                  rw [set_same (by simp [hSk])] at h1
                  exact ⟨i2 + 1, n, by have := hxl.out; omega, rfl, rfl, by go_num, hn30, hidden ⟨S, h1, hnS.out⟩⟩
          · by_cases hl0 : i2 < zs.length
            · have hl1 : (i2 : Int) < (zs.length : Int) := by omega
              have hl2 : ¬ (i2 : Int) < 40 := by omega
              replace hlt2 := hidden hlt2
              go_wp2
              go_meet
              case rel => exact ⟨n, rfl, hn30, hJ.out⟩
            · have hl1 : ¬ (i2 : Int) < (zs.length : Int) := by omega
              replace hlt2 := hidden hlt2
              go_wp2
              go_meet
              case rel => exact ⟨n, rfl, hn30, hJ.out⟩
      case rest =>
        obtain ⟨n, rfl, hn30, hL⟩ := hcut
        replace hL := hidden hL
        clear hL0
        go_wp2_with fail
        go_loopg [11] n (fun gk3 nv wr3 => ∃ n3 : Nat, n3 ≤ 30 ∧ gk3 = n3 ∧ nv = .int .i64 n3 ∧ Hid (LSt w d w.heap.size jb cb mb ab sb n3 wr3))
        case atStart => exact ⟨n, hn30, rfl, rfl, hL⟩
        case round =>
          obtain ⟨n3, hn3, hgk3, rfl, hL3⟩ := hrel
          replace hgk3 := hidden hgk3
          clear hL
          obtain ⟨S, hD, hnS⟩ := hL3.out.ex
          by_cases hpos : 0 < n3
          · have hp1 : (0 : Int) < (n3 : Int) := by omega
            obtain ⟨i0, hi0, hfree, hlow⟩ := freeN_some (S := S) (K := 30) (by omega)
            replace hD := hidden hD
            replace hnS := hidden hnS
            replace hlow := hidden hlow
            go_wp2_with fail
            go_loopg [15] (i0 + 1) (fun gk4 q wr4 => ∃ r : Nat, r ≤ i0 ∧ gk4 = i0 + 1 - r ∧ q = .int .i64 r ∧ Hid (wr4 = wr))
            case atStart => exact ⟨0, by omega, rfl, rfl, hidden rfl⟩
            case round =>
              obtain ⟨r, hr, hgk4, rfl, hwr⟩ := hrel
              replace hgk4 := hidden hgk4
              obtain rfl := hwr.out
              have hc := hD.out.s.cell r (by omega)
              have hf := hD.out.s.free r (by omega)
              by_cases hri : r < i0
              · simp only [hlow.out r hri, Bool.not_true] at hc
                go_wp2
                go_roundg (i0 + 1 - (r + 1))
                case measure => rw [hgk4.out]; omega
                case rel => exact ⟨r + 1, hri, rfl, by go_num, hidden rfl⟩
              · obtain rfl : r = i0 := by omega
                simp only [hfree, Bool.not_false] at hc
                have hD5 := hD.out.put r hi0 false
                have hT := hidden (hD5.take r hi0 hfree (fun j hj => hlow.out j hj))
                clear hD5
                go_wp2_with fail
                refine (hT.out).mono ?_
                rintro ev w6 ⟨rfl, hD6⟩
                have hE6 : LSt w d w.heap.size jb cb mb ab sb (n3 - 1) w6 := by
                  refine ⟨setS S r true, ?_, ?_⟩
                  · rw [not_set]
                    exact hD6
                  · have := freeN_take hi0 hfree
                    rw [hnS.out] at this
                    omega
                replace hE6 := hidden hE6
                clear hT hD6
                have hsub : (n3 : Int) - 1 = ((n3 - 1 : Nat) : Int) := by omega
                go_wp2
                go_roundg (n3 - 1)
                case measure => rw [hgk3.out]; omega
                case rel => exact ⟨n3 - 1, by omega, rfl, by go_num, hE6⟩
          · obtain rfl : n3 = 0 := by omega
            have hF := hidden (hD.a.full (fun j hj => freeN_zero hnS j hj))
            clear hD hnS
            go_wp2_with fail
            refine (hF.out).mono ?_
            rintro ev w6 ⟨b6, rfl, hch6, hB6⟩
            have hB06 := hL3.out.below.trans (hB6.mono hL3.out.below.size)
            have hN := hidden (kN.out 15 w6 hB06 b6 _ hch6)
            replace hB06 := hidden hB06
            clear hF hch6 hB6
            go_wp2_with fail
            refine (hN.out).mono ?_
            rintro ev w7 ⟨rfl, hB7⟩
            have hB07 := hB06.out.trans (hB7.mono hB06.out.size)
            have hA := hidden (kA.out w7 hB07)
            replace hB07 := hidden hB07
            clear hN hB7
            go_wp2_with fail
            refine (hA.out).mono ?_
            rintro ev w8 ⟨rfl, hB8⟩
            have hE := hidden (hB07.out.trans (hB8.mono hB07.out.size))
            clear hA hB8
            go_wp2
            go_ret
            exact ⟨rfl, hE.out⟩
end Go.Proofs.YtildpgingcmfcaaDoor
