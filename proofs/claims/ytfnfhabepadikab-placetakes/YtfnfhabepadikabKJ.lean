/- PlaceTakes. -/
import Derived.Test.YtfnfhabepadikabKL
namespace Go.Proofs.Ytfnfhabepadikab
open Go Go.RowKit
set_option maxRecDepth 100000

theorem cleanL_le (L : List Rg) : (cleanL L).length ≤ L.length := by
  unfold cleanL
  split
  · have h2 := foldJ_len (L.mergeSort fun a b => decide (a.1 ≤ b.1)) []
    rw [List.length_mergeSort] at h2
    simpa using h2
  · simp
def inB (L : List Rg) (k : Int) : Bool := L.any fun a => decide (a.1 ≤ k) && decide (k < a.2)
theorem inB_iff (L : List Rg) (k : Int) : inB L k = true ↔ inR L k := by
  unfold inB inR
  rw [List.any_eq_true]
  simp only [Bool.and_eq_true, decide_eq_true_eq]
theorem inB_drop {L : List Rg} {i : Nat} {a : Rg} (h : L[i]? = some a) (k : Int) : inB (L.drop i) k = ((decide (a.1 ≤ k) && decide (k < a.2)) || inB (L.drop (i + 1)) k) := by
  obtain ⟨h1, h2⟩ := List.getElem?_eq_some_iff.1 h
  rw [List.drop_eq_getElem_cons h1, h2]
  rfl
set_option maxHeartbeats 2000000 in
theorem in_calls (L : List Rg) (k : Int) (w : World) (v : Value) (hv : RgAt w v L) (hl : L.length ≤ 100000) : Calls Try.prog 5 #[v, .int .i64 k] w fun e w' => e = .returned (.bool (inB L k)) ∧ w' = w := by
  obtain ⟨R, hR⟩ : ∃ R, inB L k = R := ⟨_, rfl⟩
  rw [hR]
  have hR0 := hidden (show inB (L.drop 0) k = R from hR)
  obtain ⟨a0, cap, rfl, hcap, hc⟩ := hv
  replace hc := hidden hc
  clear hR
  go_enter Try.func5, Try.ntmps5
  go_wp2_with fail
  go_loopg [5] L.length (fun g si wr => ∃ i : Nat, i ≤ L.length ∧ g = L.length - i ∧ si = .int .i64 (i : Int) ∧ wr = w ∧ Hid (inB (L.drop i) k = R))
  case atStart => exact ⟨0, Nat.zero_le _, rfl, rfl, rfl, hR0⟩
  case round =>
    obtain ⟨i, hi, hg, rfl, rfl, hI⟩ := hrel
    replace hg := hidden hg
    clear hR0
    by_cases hlt : i < L.length
    · have hlt' : (i : Int) < (L.length : Int) := by omega
      obtain ⟨b, off, rfl, hbl, hx⟩ := hc.out (by rintro rfl; simp at hlt)
      obtain ⟨⟨x, y⟩, hget⟩ : ∃ t, L[i]? = some t := ⟨_, List.getElem?_eq_getElem hlt⟩
      obtain ⟨f0, f1⟩ := hx i _ hget
      have hd := hidden (hI.out.symm.trans (inB_drop hget k))
      dsimp only at f0 f1 hd
      clear hx hget hI
      by_cases h1 : x ≤ k
      · by_cases h2 : k < y
        · have hE := hidden (show R = true by rw [hd.out, decide_eq_true h1, decide_eq_true h2]; rfl)
          go_wp2
          go_ret
          exact ⟨by rw [hE.out]; rfl, rfl⟩
        · have hE := hidden (show inB (L.drop (i + 1)) k = R by rw [hd.out, decide_eq_false h2]; simp)
          go_wp2
          go_roundg (L.length - (i + 1))
          case measure => rw [hg.out]; omega
          case rel => exact ⟨i + 1, hlt, rfl, by go_num, rfl, hE⟩
      · have hE := hidden (show inB (L.drop (i + 1)) k = R by rw [hd.out, decide_eq_false h1]; simp)
        go_wp2
        go_roundg (L.length - (i + 1))
        case measure => rw [hg.out]; omega
        case rel => exact ⟨i + 1, hlt, rfl, by go_num, rfl, hE⟩
    · obtain rfl : i = L.length := by omega
      have hE := hidden (show R = false by rw [← hI.out, List.drop_length]; rfl)
      clear hI
      go_wp2
      go_ret
      exact ⟨by rw [hE.out]; rfl, rfl⟩
theorem Box.set01 {w : World} {b : Nat} {x y : Int} (h : Box w b x y) (p q : Int) : Box ((w.setCell ⟨b, 0, none⟩ (.int .i64 p)).setCell ⟨b, 1, none⟩ (.int .i64 q)) b p q := by
  refine ⟨?_, ?_, fun j => by have := h.fz j; simpa using this⟩
  · rw [World.cell?_setCell_other _ ⟨b, 1, none⟩ ⟨b, 0, none⟩ (.int .i64 q) (fun he => by injection he with _ h2 _; exact absurd h2 (by decide))]
    exact World.cell?_setCell_same _ _ _ h.c0
  · have h1 : (w.setCell ⟨b, 0, none⟩ (.int .i64 p)).cell? ⟨b, 1, none⟩ = some (.int .i64 y) := by
      rw [World.cell?_setCell_other _ ⟨b, 0, none⟩ ⟨b, 1, none⟩ (.int .i64 p) (fun he => by injection he with _ h2 _; exact absurd h2 (by decide))]
      exact h.c1
    exact World.cell?_setCell_same _ _ _ h1
set_option maxHeartbeats 8000000 in
theorem placeTakes_calls (l : List Rg) (r : Rg) (w : World) (v : Value) (hv : RgAt w v l) : Calls Try.prog 3 #[v, .agg #[.int .i64 r.1, .int .i64 r.2]] w fun e w' => e = .returned (.bool true) ∧ Below w.heap.size w w' := by
  have kA := hidden (fun wx => awake_calls wx)
  obtain ⟨rx, ry⟩ := r
  dsimp only
  obtain ⟨p, hp, hp0, hp1⟩ := and_of rx 1023 (by omega) (by omega)
  obtain ⟨q, hq, hq0, hq1⟩ := and_of ry 1023 (by omega) (by omega)
  obtain ⟨p, rfl⟩ := nat_of hp0
  obtain ⟨q, rfl⟩ := nat_of hq0
  obtain ⟨g, hg⟩ : ∃ g, w.heap.size = g := ⟨_, rfl⟩
  have hbr := hidden (show Box (w.alloc (Obj.cells #[Value.int .i64 rx, Value.int .i64 ry] 24)) g rx ry by rw [← hg]; exact box_at w rx ry)
  have hBr := hidden (box_new w (Obj.cells #[Value.int .i64 rx, Value.int .i64 ry] 24))
  obtain ⟨a0, cap, rfl, hcap, hc⟩ := hv.below hBr.out
  replace hc := hidden hc
  clear hv
  go_enter Try.func3, Try.ntmps3
  go_wp2_with fail
  generalize w.alloc (Obj.cells #[Value.int .i64 rx, Value.int .i64 ry] 24) = w1 at hbr hBr hc ⊢
  go_loopg [5, 6] 12 (fun fu sa si wr => ∃ (i : Nat) (L : List Rg), i ≤ 12 ∧ fu = 12 - i ∧ si = .int .i64 (i : Int) ∧ Hid (RgOwn w1.heap.size wr sa L ∧ L.length = i ∧ Small L 1086 ∧ Below w1.heap.size w1 wr))
  case atStart => exact ⟨0, [], Nat.zero_le _, rfl, rfl, hidden ⟨RgOwn.nil _ _, rfl, (fun a h => by cases h), Below.refl _ _⟩⟩
  case round =>
    obtain ⟨i, L, hi, hfu, rfl, hI⟩ := hrel
    replace hfu := hidden hfu
    obtain ⟨z, hz⟩ : ∃ z : Bool, decide (i < l.length ∧ i < 12) = z := ⟨_, rfl⟩
    replace hz := hidden hz
    go_upto_region 3 with fail
    go_cut [18] from 11 to 18 (fun v wx => v = .bool z ∧ wx = wr)
    case first =>
      by_cases h1 : i < l.length
      · have h1c : (i : Int) < (l.length : Int) := by omega
        by_cases h2 : i < 12
        · have h2c : (i : Int) < 12 := by omega
          go_wp2
          go_meet
          case rel => exact ⟨by rw [← hz.out, decide_eq_true (show i < l.length ∧ i < 12 from ⟨h1, h2⟩)], rfl⟩
        · have h2c : ¬ (i : Int) < 12 := by omega
          go_wp2
          go_meet
          case rel => exact ⟨by rw [← hz.out, decide_eq_false (show ¬ (i < l.length ∧ i < 12) by omega)], rfl⟩
      · have h1c : ¬ (i : Int) < (l.length : Int) := by omega
        go_wp2
        go_meet
        case rel => exact ⟨by rw [← hz.out, decide_eq_false (show ¬ (i < l.length ∧ i < 12) by omega)], rfl⟩
    case rest =>
      obtain ⟨rfl, rfl⟩ := hcut
      rename World => wr
      obtain ⟨hO, hLl, hS, hB⟩ := hI.out
      cases z
      rotate_left
      · obtain ⟨h1, h2⟩ := of_decide_eq_true hz.out
        have h1c : (i : Int) < (l.length : Int) := by omega
        obtain ⟨b, off, rfl, hbl, hx⟩ := hc.out (by rintro rfl; simp at h1)
        obtain ⟨⟨lx, ly⟩, hget⟩ : ∃ t, l[i]? = some t := ⟨_, List.getElem?_eq_getElem h1⟩
        obtain ⟨f0, f1⟩ := hx i _ hget
        dsimp only at f0 f1
        replace f0 := (hB.cell (p := ⟨b, off + i * 2, none⟩) hbl).trans f0
        replace f1 := (hB.cell (p := ⟨b, off + i * 2 + 1, none⟩) hbl).trans f1
        obtain ⟨m0, hm, hm0, hm1⟩ := and_of lx 1023 (by omega) (by omega)
        obtain ⟨d0, hd, hd0, hd1⟩ := and_of ly 63 (by omega) (by omega)
        obtain ⟨m, rfl⟩ := nat_of hm0
        obtain ⟨d, rfl⟩ := nat_of hd0
        obtain ⟨Q, hQ⟩ : ∃ Q : Nat, (m : Int) + (d : Int) = (Q : Int) := ⟨m + d, by omega⟩
        have hmQ : m ≤ Q ∧ Q ≤ 1086 := by omega
        clear hx hget
        go_upto_region 6 with fail
        have hbx := box_at wr m 0
        have hBn := hidden (box_new wr (Obj.cells #[Value.int .i64 (m : Int), Value.int .i64 0] 24))
        have hbw : b < wr.heap.size := Nat.lt_of_lt_of_le hbl hB.size
        replace f1 := (hBn.out.cell (p := ⟨b, off + i * 2 + 1, none⟩) hbw).trans f1
        generalize wr.alloc (Obj.cells #[Value.int .i64 (m : Int), Value.int .i64 0] 24) = w2 at hbx hBn f1 ⊢
        obtain ⟨bx, hbxe⟩ : ∃ bx, wr.heap.size = bx := ⟨_, rfl⟩
        rw [hbxe] at hbx
        have e0 := hbx.c0
        have e1 := hbx.c1
        have e2 := hbx.fz 1
        have hB3 := hidden (show Below wr.heap.size wr (w2.setCell ⟨bx, 1, none⟩ (.int .i64 (Q : Int))).drew from (hBn.out.setCell (p := ⟨bx, 1, none⟩) (by rw [hbxe]; exact Nat.le_refl _) _).drew)
        have hbx3 := hidden (hbx.set1 (Q : Int))
        clear f0
        rw [hbxe]
        go_region
        generalize (w2.setCell ⟨bx, 1, none⟩ (.int .i64 (Q : Int))).drew = w3 at hB3 hbx3 ⊢
        obtain ⟨v4, w4, hrun, hO4, hB4, -, -⟩ := hO.push1 hB3.out hB.size (by omega) m Q
        have c0 := hbx3.out.c0
        have c1 := hbx3.out.c1
        have hE := hidden (show RgOwn w1.heap.size w4 v4 (L ++ [((m : Int), (Q : Int))]) ∧ (L ++ [((m : Int), (Q : Int))]).length = i + 1 ∧ Small (L ++ [((m : Int), (Q : Int))]) 1086 ∧ Below w1.heap.size w1 w4 from ⟨hO4, by simp [hLl], hS.push (by omega) (by omega) (by omega), hB.trans hB4⟩)
        replace hrun := hidden hrun
        clear hO4 hB4 hB3 hbx3 e0 e1 e2 f1 hbx hBn hI hO hLl hS hB
        replace hQ := hidden hQ
        go_wp2_with (at_builtin; refine wpList_append_eq _ _ 22 rfl _ _ v4 w4 rfl rfl hrun.out rfl ?_)
        go_roundg (12 - (i + 1))
        case measure => rw [hfu.out]; omega
        case rel => exact ⟨i + 1, _, by omega, rfl, by go_num, hE⟩
      · have hbr2 := hbr.out.below hB
        have c0 := hbr2.c0
        have c1 := hbr2.c1
        have z0 := hbr2.fz 0
        have z1 := hbr2.fz 1
        clear hc hz
        go_upto_region 9 with fail
        have hAp := ((Apart.refl [g] wr).setCell (p := ⟨g, 0, none⟩) (by simp) (.int .i64 (p : Int))).setCell (p := ⟨g, 1, none⟩) (by simp) (.int .i64 (q : Int))
        have hb5 := hidden (hbr2.set01 (p : Int) (q : Int))
        have hgl : g < w1.heap.size := hbr.out.lt
        have hO5 := hidden (hO.keep hAp (by simpa using hgl))
        have hB5 := hidden (show Below w.heap.size w ((wr.setCell ⟨g, 0, none⟩ (.int .i64 (p : Int))).setCell ⟨g, 1, none⟩ (.int .i64 (q : Int))) from ((hBr.out.trans (hB.mono hBr.out.size)).setCell (p := ⟨g, 0, none⟩) (by rw [hg]; exact Nat.le_refl _) _).setCell (p := ⟨g, 1, none⟩) (by rw [hg]; exact Nat.le_refl _) _)
        generalize (wr.setCell ⟨g, 0, none⟩ (.int .i64 (p : Int))).setCell ⟨g, 1, none⟩ (.int .i64 (q : Int)) = w5 at hb5 hO5 hB5 ⊢
        have kT := hidden (ptake_calls L ((p : Int), (q : Int)) w5 u5 hO5.out.at (by omega))
        unfold rv at kT
        dsimp only at kT
        have hcl : (takeL (cleanL L) ((p : Int), (q : Int))).length ≤ 32 := by
          have h1 := take_len1 ((p : Int), (q : Int)) (cleanL_cln L)
          have h2 := cleanL_le L
          omega
        have hcc := hidden (clean_take (L := L) ((p : Int), (q : Int)) hcl)
        have htt := hidden (take_take (cleanL_cln L) ((p : Int), (q : Int)))
        have hin := hidden (show ∀ k : Int, inB (takeL (cleanL L) ((p : Int), (q : Int))) k = (inB L k && !(decide ((p : Int) ≤ k) && decide (k < (q : Int)))) from fun k => by
          rw [Bool.eq_iff_iff, inB_iff, take_in, (hS.clean (by omega) (by omega)).2 k, ← inB_iff, Bool.and_eq_true, Bool.not_eq_true', Bool.and_eq_false_iff, decide_eq_false_iff_not, decide_eq_false_iff_not]
          exact and_congr Iff.rfl (by dsimp only; omega))
        generalize takeL (cleanL L) ((p : Int), (q : Int)) = C at *
        have hl32 : L.length ≤ 12 := by omega
        replace hLl := hidden hLl
        clear hI hO hS hB hbr hBr hbr2 c0 c1 z0 z1 hAp hfu
        have d0 := hb5.out.c0
        have d1 := hb5.out.c1
        go_wp2_with fail
        refine kT.out.mono ?_
        rintro e w6 ⟨⟨v6, rfl, hA6⟩, hB6⟩
        have hO6 := hidden (hO5.out.at.below hB6)
        have hb6 := hidden (hb5.out.below hB6)
        have hB7 := hidden (hB5.out.trans (hB6.mono hB5.out.size))
        replace hA6 := hidden hA6
        clear hO5 hb5 hB5 hB6 kT d0 d1
        go_wp2_with fail
        go_loopg [10] 1100 (fun fu sk wr2 => ∃ k : Nat, k ≤ 1100 ∧ fu = 1100 - k ∧ sk = .int .i64 (k : Int) ∧ wr2 = w6)
        case atStart => exact ⟨0, Nat.zero_le _, rfl, rfl, rfl⟩
        case round =>
          obtain ⟨k, hk, hfu, rfl, rfl⟩ := hrel
          replace hfu := hidden hfu
          rename World => w6
          have d0 := hb6.out.c0
          have d1 := hb6.out.c1
          by_cases hkc : k < 1100
          · have hkc' : (k : Int) < 1100 := by omega
            have kI1 := hidden (in_calls C (k : Int) w6 v6 hA6.out (by omega))
            have kI2 := hidden (in_calls L (k : Int) w6 u5 hO6.out (by omega))
            have hx := hin.out (k : Int)
            generalize inB C (k : Int) = x1 at kI1 hx
            generalize inB L (k : Int) = x2 at kI2 hx
            have hstep : ∃ a b : Bool, decide ((p : Int) ≤ (k : Int)) = a ∧ decide ((k : Int) < (q : Int)) = b ∧ x1 = (x2 && !(a && b)) := ⟨_, _, rfl, rfl, hx⟩
            obtain ⟨a, b, ha, hb, rfl⟩ := hstep
            clear hx
            cases x2
            · go_wp2_with fail
              refine kI1.out.mono ?_
              rintro e wa ⟨rfl, rfl⟩
              go_wp2_with fail
              refine kI2.out.mono ?_
              rintro e wb ⟨rfl, rfl⟩
              dsimp only [Bool.false_and]
              go_wp2
              go_roundg (1100 - (k + 1))
              case measure => rw [hfu.out]; omega
              case rel => exact ⟨k + 1, by omega, rfl, by go_num, rfl⟩
            · go_wp2_with fail
              refine kI1.out.mono ?_
              rintro e wa ⟨rfl, rfl⟩
              go_wp2_with fail
              refine kI2.out.mono ?_
              rintro e wb ⟨rfl, rfl⟩
              cases a
              · have h1 := of_decide_eq_false ha
                go_wp2
                go_roundg (1100 - (k + 1))
                case measure => rw [hfu.out]; omega
                case rel => exact ⟨k + 1, by omega, rfl, by go_num, rfl⟩
              · have h1 := of_decide_eq_true ha
                cases b
                · have h2 := of_decide_eq_false hb
                  go_wp2
                  go_roundg (1100 - (k + 1))
                  case measure => rw [hfu.out]; omega
                  case rel => exact ⟨k + 1, by omega, rfl, by go_num, rfl⟩
                · have h2 := of_decide_eq_true hb
                  go_wp2
                  go_roundg (1100 - (k + 1))
                  case measure => rw [hfu.out]; omega
                  case rel => exact ⟨k + 1, by omega, rfl, by go_num, rfl⟩
          · obtain rfl : k = 1100 := by omega
            have kT2 := hidden (show Calls Try.prog 4 #[v6, .agg #[.int .i64 (p : Int), .int .i64 (q : Int)]] w6 fun e w' => (∃ v, e = .returned v ∧ RgAt w' v C) ∧ Below w6.heap.size w6 w' by
              have := ptake_calls C ((p : Int), (q : Int)) w6 v6 hA6.out (by omega)
              rw [hcc.out, htt.out] at this
              exact this)
            clear hO6 hb6
            go_wp2_with (first
              | (go_at_call 4; refine kT2.out.mono ?_; rintro e wa ⟨⟨va, rfl, hAa⟩, hBa⟩; have hS1 := hidden (same_calls C C wa va v6 hAa (hA6.out.below hBa) (by omega) (by omega)); have hBb := hidden (hB7.out.trans (hBa.mono hB7.out.size)); clear hAa hBa kT2; rw [show decide (C = C) = true from decide_eq_true rfl] at hS1)
              | (go_at_call 6; refine hS1.out.mono ?_; rintro e wb ⟨rfl, hBc⟩; have hBd := hidden (hBb.out.trans (hBc.mono hBb.out.size)); clear hBc hS1 hBb)
              | (go_at_call 7; refine (kA.out _).mono ?_; rintro e wc ⟨rfl, hBe⟩; have hBf := hidden (hBd.out.trans (hBe.mono hBd.out.size)); clear hBe hBd))
            go_ret
            exact ⟨rfl, hBf.out⟩
end Go.Proofs.Ytfnfhabepadikab
