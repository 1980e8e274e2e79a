/- name.Join puts names together to a path as the document says. -/
import Derived.Test.YthibelgeejgmeaaNa3
namespace Go.Proofs.Ythibelgeejgmeaa
open Go Go.RowKit
set_option maxRecDepth 100000

theorem mk_append (x y : List UInt8) : mkB x ++ mkB y = mkB (x ++ y) := by
  have : (mkB x ++ mkB y).data.toList = x ++ y := by simp [mkB]
  rw [← mk_back (mkB x ++ mkB y), this]
theorem mk_stroke : (⟨#[47]⟩ : ByteArray) = mkB [47] := rfl
theorem join_lib (l : List (List UInt8)) : joinB l = 47 :: Lib.join l [47] := by
  cases l with
  | nil => rfl
  | cons x l =>
    rw [Lib.join_cons]
    simp [joinB, flatB, Lib.joinTail]
def joinR (l : List (List UInt8)) : List UInt8 := if mayB l = true then joinB l else []
set_option maxHeartbeats 4000000 in
theorem join_calls (v : Value) (l : List (List UInt8)) (w : World) (h : TxtsAt w v l) : Calls Try.prog 10 #[v] w fun e w' => e = .returned (.tuple #[.string (mkB (joinR l)), .bool (mayB l)]) ∧ Below w.heap.size w w' := by
  have hh := hidden h
  obtain ⟨a, cap, rfl, hcap, hc⟩ := h
  replace hc := hidden hc
  by_cases h6 : 6 < l.length
  · have h6' : (6 : Int) < (l.length : Int) := by omega
    have e : mayB l = false := by unfold mayB; rw [show decide (l.length ≤ 6) = false by simp; omega]; rfl
    have e2 : mkB (joinR l) = ⟨#[]⟩ := by rw [joinR, e]; rfl
    rw [e2, e]; clear e e2 h6
    go_enter Try.func10, Try.ntmps10
    go_wp2
    go_ret2
    exact ⟨rfl, Below.refl _ _⟩
  have h6' : ¬ (6 : Int) < (l.length : Int) := by omega
  go_enter Try.func10, Try.ntmps10
  go_wp2_with fail
  go_loopg [11] l.length (fun g i wr => ∃ k : Nat, k ≤ l.length ∧ g = l.length - k ∧ i = .int .i64 (k : Int) ∧ wr = w ∧ ∀ j x, j < k → l[j]? = some x → okB x = true)
  case atStart => exact ⟨0, Nat.zero_le _, rfl, rfl, rfl, fun j x hj => by omega⟩
  case round =>
    obtain ⟨k, hk, hg, rfl, hw, hall⟩ := hrel
    subst wr
    replace hg := hidden hg
    replace hall := hidden hall
    by_cases hlt : k < l.length
    · obtain ⟨b, off, rfl, hb, hx⟩ := hc.out (by rintro rfl; simp at hlt)
      have hgx : l[k]? = some l[k] := List.getElem?_eq_getElem hlt
      have hcell := hx k _ hgx
      replace hx := hidden hx
      replace hgx := hidden hgx
      generalize l[k] = x at hcell hgx
      have kO := hidden (ok_calls (mkB x) w)
      rw [mk_list] at kO
      clear hc
      go_wp2_with fail
      refine kO.out.mono ?_
      rintro e w3 ⟨rfl, hw⟩
      subst w3
      clear kO
      cases ho : okB x
      · have e : mayB l = false := by
          cases hm : mayB l with
          | false => rfl
          | true => have := (may_all hm).2 x (List.mem_of_getElem? hgx.out); rw [ho] at this; cases this
        have e2 : mkB (joinR l) = ⟨#[]⟩ := by rw [joinR, e]; rfl
        replace e := hidden e
        replace e2 := hidden e2
        go_wp2
        go_ret2
        exact ⟨by rw [e.out, e2.out]; rfl, Below.refl _ _⟩
      · go_wp2
        go_roundg (l.length - (k + 1))
        case measure => rw [hg.out]; omega
        case rel =>
          refine ⟨k + 1, hlt, rfl, by simp, rfl, fun j y hj hy => ?_⟩
          by_cases e : j = k
          · subst e; rw [hgx.out] at hy; cases hy; exact ho
          · exact hall.out j y (by omega) hy
    · obtain rfl : k = l.length := by omega
      have hm : mayB l = true := may_of (by omega) (fun x hx => by
        obtain ⟨j, hj, e⟩ := List.mem_iff_getElem.1 hx
        exact hall.out j x hj (by rw [List.getElem?_eq_getElem hj, e]))
      have hjl : joinR l = 47 :: Lib.join l [47] := by rw [joinR, if_pos hm, join_lib]
      have hlen : (Lib.join l [47]).length ≤ 200 := by
        have := join_len hm
        rw [join_lib] at this; simp at this; omega
      have kJ : Calls Try.prog 22 #[.slice a l.length cap, .string ⟨#[47]⟩] w fun e w' => e = .returned (.string (mkB (Lib.join l [47]))) ∧ Below w.heap.size w w' := by
        cases l with
        | nil => exact (Try.strings_Join_none _ _ _ _).mono fun e w' ⟨he, hw⟩ => ⟨he, hw ▸ Below.refl _ _⟩
        | cons y r =>
          obtain ⟨b, off, rfl, hb, hx⟩ := hc.out (by simp)
          have hmap : ((y :: r).map mkB).map (·.data.toList) = y :: r := by rw [List.map_map]; conv => rhs; rw [← List.map_id (y :: r)]
                                                                            apply List.map_congr_left; intro z _; exact mk_list z
          have hjj := Try.strings_Join b off cap ((y :: r).map mkB) ⟨#[47]⟩ w (fun j x hj => by
            rw [List.getElem?_map] at hj
            obtain ⟨z, hz, rfl⟩ := Option.map_eq_some_iff.1 hj
            exact hx j z hz) hb (by rw [List.length_map]; omega) (by rw [List.length_map]; omega) (by rw [hmap]; exact Nat.le_trans hlen (by omega))
          rw [hmap, List.length_map] at hjj
          exact hjj
      replace kJ := hidden kJ
      have hsz : (mkB (Lib.join l [47])).size ≤ 200 := by rw [mk_size]; exact hlen
      have hst : (mkB [47]).size = 1 := rfl
      have hap := hidden (mk_append [47] (Lib.join l [47]))
      clear hlen hc
      replace hjl := hidden hjl
      replace hm := hidden hm
      generalize Lib.join l [47] = J at *
      go_wp2_with fail
      refine kJ.out.mono ?_
      rintro e w3 ⟨rfl, hB⟩
      replace hB := hidden hB
      clear kJ
      go_wp2
      go_ret2
      exact ⟨by rw [hm.out, hjl.out]; exact congrArg (fun s => Ending.returned (.tuple #[.string s, .bool true])) hap.out, hB.out⟩
end Go.Proofs.Ythibelgeejgmeaa
