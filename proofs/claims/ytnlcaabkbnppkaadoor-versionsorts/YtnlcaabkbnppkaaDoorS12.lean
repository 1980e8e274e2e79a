/- credenzaref2.SameTexts at equal lists; credenzaref14.Newest. -/
import Derived.Test.YtnlcaabkbnppkaaDoorS11
import Derived.Test.YtnlcaabkbnppkaaDoorVD
namespace Go.Proofs.YtnlcaabkbnppkaaDoor
open Go Go.RowKit
set_option maxRecDepth 100000

set_option maxHeartbeats 8000000 in
theorem sameTexts_calls (v u : Value) (l : List (List UInt8)) (w : World) (hv : TxtsAt w v l) (hu : TxtsAt w u l) (h40 : l.length ≤ 40) :
    Calls Tryd.prog 6 #[v, u] w fun e w' => e = .returned (.bool true) ∧ Below w.heap.size w w' := by
  obtain ⟨a, cap, rfl, hcap, hc⟩ := hv
  obtain ⟨a', cap', rfl, hcap', hc'⟩ := hu
  obtain ⟨n, hln⟩ : ∃ n, l.length = n := ⟨_, rfl⟩
  rw [hln] at h40 ⊢
  replace hc := hidden hc
  replace hc' := hidden hc'
  clear hcap hcap'
  go_enter Tryd.func6, Tryd.ntmps6
  go_wp2_with fail
  go_loopg [5] n (fun g si wr => ∃ k : Nat, k ≤ n ∧ g = n - k ∧ si = .int .i64 (k : Int) ∧ Hid (Below w.heap.size w wr))
  case atStart => exact ⟨0, Nat.zero_le _, rfl, rfl, hidden (Below.refl _ _)⟩
  case round =>
    obtain ⟨k, hk, hg, rfl, hV⟩ := hrel
    replace hg := hidden hg
    by_cases hlt : k < n
    · have hltI : (k : Int) < (n : Int) := by omega
      obtain ⟨x, hx⟩ : ∃ x, l[k]? = some x := ⟨_, List.getElem?_eq_getElem (by rw [hln]; exact hlt)⟩
      have hne : l ≠ [] := by intro e; rw [e] at hx; simp at hx
      obtain ⟨b, off, rfl, hb, hcells⟩ := hc.out hne
      obtain ⟨b', off', rfl, hb', hcells'⟩ := hc'.out hne
      have c0 := (hV.out.cell (p := ⟨b, off + k, none⟩) hb).trans (hcells k x hx)
      have c1 := (hV.out.cell (p := ⟨b', off' + k, none⟩) hb').trans (hcells' k x hx)
      clear hcells hcells' hx hne
      go_upto_region 6 with fail
      go_quiet (fail)
      have hb4 := hidden (below_drewN hV.out nq)
      generalize wr.drewN nq = w5 at hb4 ⊢
      clear c0 c1 hV
      go_wp2
      go_roundg (n - (k + 1))
      case measure => rw [hg.out]; omega
      case rel => exact ⟨k + 1, hlt, rfl, by go_num, hb4⟩
    · obtain rfl : k = n := by omega
      go_wp2
      go_ret
      exact ⟨rfl, hV.out⟩
theorem rcmp_grown (x y : List UInt8) (w : World) (hx : x.length ≤ 900) (hy : y.length ≤ 900) : ∀ d os, Calls Tryd.prog 13 #[.string (mkB x), .string (mkB y)] (Go.Sort.grow (redrawn w d) os) fun e w'' => e = .returned (.int .i64 (cmpV x y)) ∧ ∃ p : Regrown, w'' = Go.Sort.grow (redrawn w p.d) p.os :=
  fun _ _ => Calls.regrown_of (rcompare_calls x y _ hx hy)
set_option maxHeartbeats 8000000 in
theorem rnewest_calls (v : Value) (l : List (List UInt8)) (w : World) (hv : TxtsAt w v l) (hl : ∀ x ∈ l, x.length ≤ 900) (hn : l.length ≤ 40) : Calls Tryd.prog 9 #[v] w fun e w' => e = .returned (.int .i64 (bestF l l.length)) ∧ Below w.heap.size w w' := by
  obtain ⟨a, cap, rfl, hcap, hc⟩ := hv
  obtain ⟨n, hln⟩ : ∃ n, l.length = n := ⟨_, rfl⟩
  rw [hln] at hn ⊢
  replace hc := hidden hc
  replace hl := hidden hl
  clear hcap
  go_enter Tryd.func9, Tryd.ntmps9
  go_wp2_with fail
  go_loopg [3, 4] n (fun g sb si wr => ∃ k : Nat, k ≤ n ∧ g = n - k ∧ si = .int .i64 (k : Int) ∧ sb = .int .i64 (bestF l k) ∧ Hid (Below w.heap.size w wr))
  case atStart => exact ⟨0, Nat.zero_le _, rfl, rfl, rfl, hidden (Below.refl _ _)⟩
  case round =>
    obtain ⟨k, hk, hg, rfl, rfl, hB⟩ := hrel
    replace hg := hidden hg
    have hbr := best_range l k
    have hd1 : bestF l k < 0 → bestF l (k + 1) = (k : Int) := fun h => by rw [bestF, if_pos h]
    have hd2 : ¬ bestF l k < 0 → 0 < cmpV (l.getD k []) (l.getD (bestF l k).toNat []) → bestF l (k + 1) = (k : Int) := fun h h2 => by rw [bestF, if_neg h, if_pos h2]
    have hd3 : ¬ bestF l k < 0 → ¬ 0 < cmpV (l.getD k []) (l.getD (bestF l k).toNat []) → bestF l (k + 1) = bestF l k := fun h h2 => by rw [bestF, if_neg h, if_neg h2]
    replace hd1 := hidden hd1
    replace hd2 := hidden hd2
    replace hd3 := hidden hd3
    by_cases hlt : k < n
    · have hlt' : (k : Int) < (n : Int) := by omega
      have hgk : l[k]? = some (l.getD k []) := by rw [List.getD_eq_getElem?_getD, List.getElem?_eq_getElem (by rw [hln]; exact hlt)]; rfl
      have hne : l ≠ [] := by intro e; rw [e] at hln; simp at hln; omega
      obtain ⟨b, off, rfl, hb, hcells⟩ := hc.out hne
      have c1 := (hB.out.cell (p := ⟨b, off + k, none⟩) hb).trans (hcells k _ hgk)
      have hlk := hl.out _ (List.mem_of_getElem? hgk)
      by_cases hneg : bestF l k < 0
      · have hv1 := hidden (hd1.out hneg)
        have hb4 := hidden (fun n => below_drewN hB.out n)
        clear hgk hlk hbr hd1 hd2 hd3 hcells hne hln
        generalize l.getD k [] = x at *
        generalize bestF l k = bk at *
        go_upto_region 5 with fail
        go_quiet (fail)
        have hb5 := hidden (hb4.out nq)
        generalize wr.drewN nq = w5 at hb5 ⊢
        clear c1 hB hb4
        go_wp2
        go_roundg (n - (k + 1))
        case measure => rw [hg.out]; omega
        case rel => exact ⟨k + 1, hlt, rfl, by go_num, by rw [hv1.out], hb5⟩
      · obtain ⟨j, hj⟩ : ∃ j : Nat, bestF l k = (j : Int) := ⟨(bestF l k).toNat, by omega⟩
        have hjl : j < n := by omega
        rw [hj] at hneg hd2 hd3 ⊢
        rw [Int.toNat_natCast] at hd2 hd3
        have hgj : l[j]? = some (l.getD j []) := by rw [List.getD_eq_getElem?_getD, List.getElem?_eq_getElem (by rw [hln]; exact hjl)]; rfl
        have c2 := (hB.out.cell (p := ⟨b, off + j, none⟩) hb).trans (hcells j _ hgj)
        have hlj := hl.out _ (List.mem_of_getElem? hgj)
        have hjl' : (j : Int) < (n : Int) := by omega
        have hj0 : ¬ (j : Int) < 0 := by omega
        have cC := hidden (rcmp_grown (l.getD k []) (l.getD j []) wr hlk hlj)
        have hB2 := hidden (fun (wx : World) (hx : Below wr.heap.size wr wx) => hB.out.trans (hx.mono hB.out.size))
        have r1 := cell_regrown c1
        have r2 := cell_regrown c2
        replace hj := hidden hj
        clear hgk hlk hbr hd1 hgj hlj hcells hne hln hB
        generalize l.getD k [] = x at *
        generalize l.getD j [] = y at *
        generalize cmpV x y = z at *
        go_upto_region 5 with fail
        refine wp_region_quiet_below (by kernel_rfl) (by kernel_rfl) ?_
        repeat (go_big_quiet_step (first | exact cC.out _ _))
        refine wpQuiet_nil ?_
        intro _ hw'
        obtain ⟨⟨dq, osq⟩, hw''⟩ := hw'
        subst hw''
        have hb5 := hidden (hB2.out _ (below_regrown wr dq osq))
        generalize Go.Sort.grow (redrawn wr dq) osq = w5 at hb5 ⊢
        clear c1 c2 r1 r2 cC hB2
        generalize hzd : decide (0 < z) = bz
        cases bz
        · have hz0 : ¬ 0 < z := of_decide_eq_false hzd
          have hv1 := hidden (hd3.out hneg hz0)
          go_wp2
          go_roundg (n - (k + 1))
          case measure => rw [hg.out]; omega
          case rel => exact ⟨k + 1, hlt, rfl, by go_num, by rw [hv1.out], hb5⟩
        · have hz0 : 0 < z := of_decide_eq_true hzd
          have hv1 := hidden (hd2.out hneg hz0)
          go_wp2
          go_roundg (n - (k + 1))
          case measure => rw [hg.out]; omega
          case rel => exact ⟨k + 1, hlt, rfl, by go_num, by rw [hv1.out], hb5⟩
    · obtain rfl : k = n := by omega
      go_wp2
      go_ret
      exact ⟨rfl, hB.out⟩
end Go.Proofs.YtnlcaabkbnppkaaDoor
