/- version.Newest; what the document fixes (awake). -/
import Derived.Test.YtnlcaabkbnppkaaDoorV4
namespace Go.Proofs.YtnlcaabkbnppkaaDoor
open Go Go.RowKit
set_option maxRecDepth 100000

/-- A list of texts. -/
def TxtsAt (w : World) (v : Value) (l : List (List UInt8)) : Prop := ∃ a cap, v = .slice a l.length cap ∧ l.length ≤ cap ∧ (l ≠ [] → ∃ b off, a = some ⟨b, off, none⟩ ∧ b < w.heap.size ∧ ∀ k x, l[k]? = some x → w.cell? ⟨b, off + k, none⟩ = some (.string (mkB x)))
theorem TxtsAt.nil (w : World) (a : Option Addr) (cap : Nat) : TxtsAt w (.slice a 0 cap) [] := ⟨a, cap, rfl, Nat.zero_le _, fun h => absurd rfl h⟩
theorem TxtsAt.below {w w' : World} {v : Value} {l : List (List UInt8)} (h : TxtsAt w v l) (hb : Below w.heap.size w w') : TxtsAt w' v l := by
  obtain ⟨a, cap, hv, hl, hc⟩ := h
  refine ⟨a, cap, hv, hl, fun hn => ?_⟩
  obtain ⟨b, off, ha, hlt, hx⟩ := hc hn
  exact ⟨b, off, ha, Nat.lt_of_lt_of_le hlt hb.size, fun k x hk => (hb.cell (p := ⟨b, off + k, none⟩) hlt).trans (hx k x hk)⟩
theorem TxtsAt.len {w : World} {v : Value} {l : List (List UInt8)} (h : TxtsAt w v l) : ∃ a cap, v = .slice a l.length cap := by
  obtain ⟨a, cap, hv, -, -⟩ := h
  exact ⟨a, cap, hv⟩
theorem TxtsAt.get {w : World} {v : Value} {l : List (List UInt8)} (h : TxtsAt w v l) (hn : l ≠ []) : ∃ b off cap, v = .slice (some ⟨b, off, none⟩) l.length cap ∧ l.length ≤ cap ∧ b < w.heap.size ∧ ∀ k x, l[k]? = some x → w.cell? ⟨b, off + k, none⟩ = some (.string (mkB x)) := by
  obtain ⟨a, cap, hv, hl, hc⟩ := h
  obtain ⟨b, off, rfl, hlt, hx⟩ := hc hn
  exact ⟨b, off, cap, hv, hl, hlt, hx⟩
/-- The first of a list's first ones that none of these is newer than. -/
def bestF (l : List (List UInt8)) : Nat → Int
  | 0 => -1
  | k + 1 => if bestF l k < 0 then (k : Int) else if 0 < cmpV (l.getD k []) (l.getD (bestF l k).toNat []) then (k : Int) else bestF l k
theorem best_range (l : List (List UInt8)) : ∀ k, (bestF l k = -1 ∧ k = 0) ∨ (0 ≤ bestF l k ∧ bestF l k < (k : Int))
  | 0 => Or.inl ⟨rfl, rfl⟩
  | k + 1 => by
    have := best_range l k
    unfold bestF
    split
    · right; omega
    · split
      · right; omega
      · right; omega
set_option maxHeartbeats 4000000 in
theorem newest_calls (v : Value) (l : List (List UInt8)) (w : World) (hv : TxtsAt w v l) (hl : ∀ x ∈ l, x.length ≤ 1000000) (hn : l.length ≤ 1000000) : Calls Tryd.prog 8 #[v] w fun e w' => e = .returned (.int .i64 (bestF l l.length)) ∧ Below w.heap.size w w' := by
  by_cases hnil : l = []
  · subst hnil
    obtain ⟨a, cap, rfl⟩ := hv.len
    clear hv
    go_enter Tryd.func8, Tryd.ntmps8
    go_wp2_with fail
    go_loopg [3, 8] 0 (fun g sb si wr => sb = .int .i64 (-1) ∧ si = .int .i64 0 ∧ wr = w)
    case atStart => exact ⟨rfl, rfl, rfl⟩
    case round =>
      obtain ⟨rfl, rfl, rfl⟩ := hrel
      go_wp2
      go_ret
      exact ⟨rfl, Below.refl _ _⟩
  obtain ⟨b, off, cap, rfl, hcap, hb, hc⟩ := hv.get hnil
  replace hc := hidden hc
  replace hl := hidden hl
  replace hb := hidden hb
  clear hv hnil
  go_enter Tryd.func8, Tryd.ntmps8
  go_wp2_with fail
  go_loopg [3, 8] l.length (fun g sb si wr => ∃ k : Nat, k ≤ l.length ∧ g = l.length - k ∧ si = .int .i64 (k : Int) ∧ sb = .int .i64 (bestF l k) ∧ Below w.heap.size w wr)
  case atStart => exact ⟨0, Nat.zero_le _, rfl, rfl, rfl, Below.refl _ _⟩
  case round =>
    obtain ⟨k, hk, hg, rfl, rfl, hB⟩ := hrel
    replace hg := hidden hg
    have hbr := best_range l k
    have hd1 : bestF l k < 0 → bestF l (k + 1) = (k : Int) := fun h => by rw [bestF, if_pos h]
    have hd2 : ¬ bestF l k < 0 → 0 < cmpV (l.getD k []) (l.getD (bestF l k).toNat []) → bestF l (k + 1) = (k : Int) := fun h h2 => by rw [bestF, if_neg h, if_pos h2]
    have hd3 : ¬ bestF l k < 0 → ¬ 0 < cmpV (l.getD k []) (l.getD (bestF l k).toNat []) → bestF l (k + 1) = bestF l k := fun h h2 => by rw [bestF, if_neg h, if_neg h2]
    replace hd1 := hidden hd1
    replace hd2 := hidden hd2
    replace hd3 := hidden hd3
    by_cases hlt : k < l.length
    · have hlt' : (k : Int) < (l.length : Int) := by omega
      have hgk : l[k]? = some (l.getD k []) := by rw [List.getD_eq_getElem?_getD, List.getElem?_eq_getElem hlt]; rfl
      have c1 := (hB.cell (p := ⟨b, off + k, none⟩) hb.out).trans (hc.out k _ hgk)
      have hlk := hl.out _ (List.mem_of_getElem? hgk)
      by_cases hneg : bestF l k < 0
      · have hv1 := hidden (hd1.out hneg)
        replace hB := hidden hB
        clear hgk hlk hbr hd1 hd2 hd3
        generalize l.getD k [] = x at *
        generalize bestF l k = bk at *
        go_wp2
        go_roundg (l.length - (k + 1))
        case measure => rw [hg.out]; omega
        case rel => exact ⟨k + 1, hlt, rfl, by simp, by rw [hv1.out], hB.out⟩
      · obtain ⟨j, hj⟩ : ∃ j : Nat, bestF l k = (j : Int) := ⟨(bestF l k).toNat, by omega⟩
        have hjl : j < l.length := by omega
        rw [hj] at hneg hd2 hd3 ⊢
        rw [Int.toNat_natCast] at hd2 hd3
        have hgj : l[j]? = some (l.getD j []) := by rw [List.getD_eq_getElem?_getD, List.getElem?_eq_getElem hjl]; rfl
        have c2 := (hB.cell (p := ⟨b, off + j, none⟩) hb.out).trans (hc.out j _ hgj)
        have hlj := hl.out _ (List.mem_of_getElem? hgj)
        have hjl' : (j : Int) < (l.length : Int) := by omega
        have kC := hidden (compare_calls (l.getD k []) (l.getD j []) wr hlk hlj)
        replace hB := hidden hB
        replace hj := hidden hj
        clear hgk hlk hbr hd1 hgj hlj
        generalize l.getD k [] = x at *
        generalize l.getD j [] = y at *
        generalize cmpV x y = z at *
        go_wp2_with fail
        refine kC.out.mono ?_
        rintro e w2 ⟨rfl, hB2⟩
        have hB3 := hidden (hB.out.trans (hB2.mono hB.out.size))
        clear hB2 hB kC c1 c2
        by_cases hz : 0 < z
        · have hv1 := hidden (hd2.out hneg hz)
          go_wp2
          go_roundg (l.length - (k + 1))
          case measure => rw [hg.out]; omega
          case rel => exact ⟨k + 1, hlt, rfl, by simp, by rw [hv1.out], hB3.out⟩
        · have hv1 := hidden (hd3.out hneg (by omega))
          go_wp2
          go_roundg (l.length - (k + 1))
          case measure => rw [hg.out]; omega
          case rel => exact ⟨k + 1, hlt, rfl, by simp, by rw [hv1.out], hB3.out⟩
    · obtain rfl : k = l.length := by omega
      go_wp2
      go_ret
      exact ⟨rfl, hB⟩
theorem awake_consts : cmpV [49, 46, 49, 48] [49, 46, 57] = 1 ∧ cmpV [49, 126, 114, 99] [49] = -1 ∧ cmpV [49, 46, 48] [49, 45, 48, 48] = 0 ∧ bestF [[49], [50], [50, 126]] 3 = 1 := by decide
set_option maxHeartbeats 4000000 in
theorem awake_calls (w : World) : Calls Tryd.prog 4 #[] w fun e w' => e = .returned (.bool true) ∧ Below w.heap.size w w' := by
  obtain ⟨e1, e2, e3, e4⟩ := awake_consts
  have k1 := hidden (fun w => compare_calls [49, 46, 49, 48] [49, 46, 57] w (by decide) (by decide))
  have k2 := hidden (fun w => compare_calls [49, 126, 114, 99] [49] w (by decide) (by decide))
  have k3 := hidden (fun w => compare_calls [49, 46, 48] [49, 45, 48, 48] w (by decide) (by decide))
  have k4 := hidden (fun (v : Value) (w : World) (h : TxtsAt w v [[49], [50], [50, 126]]) => newest_calls v _ w h (by decide) (by decide))
  rw [e1] at k1
  rw [e2] at k2
  rw [e3] at k3
  rw [show ([[49], [50], [50, 126]] : List (List UInt8)).length = 3 from rfl, e4] at k4
  rw [show mkB [49, 46, 49, 48] = ⟨#[49, 46, 49, 48]⟩ from rfl, show mkB [49, 46, 57] = ⟨#[49, 46, 57]⟩ from rfl] at k1
  rw [show mkB [49, 126, 114, 99] = ⟨#[49, 126, 114, 99]⟩ from rfl, show mkB [49] = ⟨#[49]⟩ from rfl] at k2
  rw [show mkB [49, 46, 48] = ⟨#[49, 46, 48]⟩ from rfl, show mkB [49, 45, 48, 48] = ⟨#[49, 45, 48, 48]⟩ from rfl] at k3
  clear e1 e2 e3 e4
  go_enter Tryd.func4, Tryd.ntmps4
  go_wp2_with fail
  refine (k1.out _).mono ?_
  rintro e w1 ⟨rfl, hb1⟩
  replace hb1 := hidden hb1
  go_wp2_with fail
  refine (k2.out _).mono ?_
  rintro e w2 ⟨rfl, hb2⟩
  replace hb2 := hidden (hb1.out.trans (hb2.mono hb1.out.size))
  go_wp2_with fail
  refine (k3.out _).mono ?_
  rintro e w3 ⟨rfl, hb3⟩
  replace hb3 := hidden (hb2.out.trans (hb3.mono hb2.out.size))
  go_wp2_with fail
  have hT : TxtsAt (w3.alloc (Obj.cells #[Value.string { data := #[49] }, Value.string { data := #[50] }, Value.string { data := #[50, 126] }] 9)) (.slice (some ⟨w3.heap.size, 0, none⟩) 3 3) [[49], [50], [50, 126]] := by
    refine ⟨_, 3, rfl, by decide, fun _ => ⟨w3.heap.size, 0, rfl, by simp, fun k x hk => ?_⟩⟩
    match k with
    | 0 => simp at hk; subst hk; simp; rfl
    | 1 => simp at hk; subst hk; simp; rfl
    | 2 => simp at hk; subst hk; simp; rfl
    | k + 3 => simp at hk
  refine (k4.out _ _ hT).mono ?_
  rintro e w4 ⟨rfl, hb4⟩
  have hB := hidden (hb3.out.trans (((Below.refl w3.heap.size w3).alloc (Nat.le_refl _) _).trans (hb4.mono (by simp)) |>.mono hb3.out.size))
  clear hb4
  go_wp2
  go_ret
  exact ⟨rfl, hB.out⟩
end Go.Proofs.YtnlcaabkbnppkaaDoor
