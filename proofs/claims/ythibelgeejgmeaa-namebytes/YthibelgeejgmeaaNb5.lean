/- NameBytes answers true, whatever it is given, and changes nothing that was there. -/
import Derived.Test.YthibelgeejgmeaaNc
import Derived.Deep.CutBlock
import Derived.Deep.DeepCutAuto
import Derived.Lib.SlBytesConst
import Derived.WalkSmall
namespace Go.Proofs.Ythibelgeejgmeaa
open Go Go.RowKit
set_option maxRecDepth 100000

theorem Try.infoByte : (Try.prog.info? 5).map (fun i => (i.zero, i.size, i.bytes)) = some (some (.int .u8 0), 1, 1) := by kernel_rfl
def rowA (n k : Nat) : Array Value := ((List.range n).map fun j => Value.int .u8 (if j < k then 113 else 0)).toArray
theorem rowA_get (n k j : Nat) (hj : j < n) : (rowA n k)[j]? = some (.int .u8 (if j < k then 113 else 0)) := by simp [rowA, hj]
theorem rowA_size (n k : Nat) : (rowA n k).size = n := by simp [rowA]
theorem rowA_zero (n : Nat) : rowA n 0 = Array.replicate n (.int .u8 0) := by
  apply Array.ext_getElem?
  intro j
  by_cases hj : j < n
  · rw [rowA_get n 0 j hj]; simp [hj]
  · rw [Array.getElem?_eq_none (by rw [rowA_size]; omega), Array.getElem?_eq_none (by simp; omega)]
theorem rowA_succ (n k : Nat) (hk : k < n) : (rowA n k).setIfInBounds k (.int .u8 113) = rowA n (k + 1) := by
  apply Array.ext_getElem?
  intro j
  by_cases hj : j < n
  · rw [rowA_get n (k + 1) j hj, Array.getElem?_setIfInBounds]
    by_cases h : k = j
    · subst h; simp [rowA_size, hk]
    · rw [if_neg h, rowA_get n k j hj]
      have : (j < k + 1) = (j < k) := by simp; omega
      simp only [this]
  · rw [Array.getElem?_eq_none (by simp [rowA_size]; omega), Array.getElem?_eq_none (by rw [rowA_size]; omega)]
theorem made_bytes (N : Nat) : madeCells (Value.int .u8 0).cells (N * 1) = Array.replicate N (.int .u8 0) := by
  apply Array.ext
  · simp [size_madeCells]
  · intro i h1 h2
    simp [madeCells, Value.cells, Nat.mod_one]
theorem make_row (n : Nat) (hn : n ≤ 1000) (w : World) : (Instr.makeSlice 36 (.int .i64 (n : Int)) (.int .i64 (n : Int))).run Try.prog w = .ok (.slice (some ⟨w.heap.size, 0, none⟩) n n) (w.alloc (.cells (rowA n 0) 5)) := by
  obtain ⟨i0, hi, hz0, hz1, hz2⟩ := info_parts3 Try.infoByte
  have h := run_makeSlice (P := Try.prog) (w := w) 36 5 i0 (.int .u8 0) Try.underlying36 hi hz0 .i64 .i64 (n : Int) (n : Int) (by omega) (by omega) (by rw [hz1]; simp; omega) (by rw [hz2]; simp; omega) (by omega)
  rw [hz1] at h
  have e : Int.toNat (n : Int) = n := by omega
  simp only [e, made_bytes] at h
  rw [rowA_zero]
  exact h
/-- The row with one byte turned. -/
def qs (n m : Nat) (c : UInt8) : List UInt8 := (List.replicate n 113).set m c
theorem qs_cells (n m : Nat) (c : UInt8) (k : Nat) (x : UInt8) (h : (qs n m c)[k]? = some x) : ((rowA n n).setIfInBounds m (.int .u8 (c.toNat : Int)))[k]? = some (.int .u8 (x.toNat : Int)) := by
  have hk : k < n := by have := (List.getElem?_eq_some_iff.1 h).1; simpa [qs] using this
  rw [Array.getElem?_setIfInBounds]
  by_cases e : m = k
  · subst e
    rw [if_pos rfl, if_pos (by rw [rowA_size]; exact hk)]
    unfold qs at h
    rw [List.getElem?_set_self (by simpa using hk)] at h
    cases h; rfl
  · rw [if_neg e, rowA_get n n k hk, if_pos hk]
    unfold qs at h
    rw [List.getElem?_set_ne e, List.getElem?_replicate, if_pos hk] at h
    cases h; rfl
theorem qs_len (n m : Nat) (c : UInt8) : (qs n m c).length = n := by simp [qs]
theorem qs_all (n m : Nat) (c : UInt8) (h : m < n) : (qs n m c).all signB = signB c := by
  cases hs : signB c with
  | false => exact all_at (k := m) (by unfold qs; rw [List.getElem?_set_self (by simpa using h)]) hs
  | true =>
    rw [List.all_eq_true]
    intro x hx
    rcases List.mem_or_eq_of_mem_set hx with hx | hx
    · rw [List.eq_of_mem_replicate hx]; decide
    · rw [hx]; exact hs
theorem qs_ok (n m : Nat) (c : UInt8) (h : m < n) (hd : ¬ (n = 1 ∧ c = 46)) : okB (qs n m c) = (signB c && decide ((n : Int) ≤ 27)) := by
  have h1 : (qs n m c == [46]) = false := by
    rw [beq_eq_false_iff_ne]
    intro e
    have hl := congrArg List.length e
    rw [qs_len] at hl
    simp at hl
    subst hl
    obtain rfl : m = 0 := by omega
    simp [qs] at e
    exact hd ⟨rfl, e⟩
  have h2 : (qs n m c == [46, 46]) = false := by
    rw [beq_eq_false_iff_ne]
    intro e
    have hl := congrArg List.length e
    rw [qs_len] at hl
    simp at hl
    subst hl
    have : m = 0 ∨ m = 1 := by omega
    rcases this with rfl | rfl <;> simp [qs] at e
  have h3 : decide (n ≤ 27) = decide ((n : Int) ≤ 27) := decide_eq_decide.2 (by omega)
  rw [okB, qs_len, h1, h2, qs_all n m c h, ← h3]
  rw [show decide (1 ≤ n) = true by simp; omega]
  simp [Bool.and_comm]
theorem letter_def (c : UInt8) : letterB c = ((decide ((97 : Int) ≤ (c.toNat : Int)) && decide ((c.toNat : Int) ≤ 122)) || (decide ((65 : Int) ≤ (c.toNat : Int)) && decide ((c.toNat : Int) ≤ 90)) || (decide ((48 : Int) ≤ (c.toNat : Int)) && decide ((c.toNat : Int) ≤ 57))) := rfl
theorem qs_dot : okB (qs 1 0 46) = false := by decide
def sg : List Int := [46, 43, 45, 95, 126]
def goodK (c : UInt8) (k : Nat) : Bool := letterB c || (sg.take k).any (fun x => decide ((c.toNat : Int) = x))
theorem good_zero (c : UInt8) : goodK c 0 = letterB c := by simp [goodK]
theorem good_succ (c : UInt8) (k : Nat) (x : Int) (h : sg[k]? = some x) : goodK c (k + 1) = (goodK c k || decide ((c.toNat : Int) = x)) := by
  unfold goodK
  rw [List.take_add_one, h]
  simp [List.any_append, Bool.or_assoc]
theorem good_all (c : UInt8) : goodK c 5 = signB c := by
  rw [sign_letter]
  simp [goodK, sg, Bool.or_assoc]
theorem cells_new (w : World) (cs : Array Value) (t : TypeId) (k : Nat) : (w.alloc (.cells cs t)).cell? ⟨w.heap.size, k, none⟩ = cs[k]? := by simp
theorem cells_newM (w : World) (cs : Array Value) (t : TypeId) (fz : Nat × Nat) (k : Nat) : (w.alloc (.cells cs t fz)).cell? ⟨w.heap.size, k, none⟩ = cs[k]? := by
  have h : (w.alloc (.cells cs t fz)).heap[w.heap.size]? = some (.cells cs t fz) := by
    show (w.heap.push (.cells cs t fz))[w.heap.size]? = _
    simp
  unfold World.cell?
  rw [h]
  rfl
set_option maxHeartbeats 8000000 in
theorem nameBytes_calls (c : UInt8) (z zt : Int) (w : World) : Calls Try.prog 7 #[.int .u8 (c.toNat : Int), .int .i64 z, .int .i64 zt] w fun e w' => e = .returned (.bool true) ∧ Below w.heap.size w w' := by
  have kA := hidden (fun w => awake_calls w)
  obtain ⟨f, g, hf, hf0, hf1, hg, hg0, hg1⟩ := and_rem z 255 31 (by omega) (by omega) (by omega)
  obtain ⟨n, rfl⟩ := Int.eq_ofNat_of_zero_le hg0
  have hn : n < 31 := by omega
  have hmk := make_row n (by omega) w
  go_enter Try.func7, Try.ntmps7
  go_wp2_with fail
  clear hf hf0 hf1 hg hg0 hg1 hmk
  go_loopg [19] n (fun g i wr => ∃ k : Nat, k ≤ n ∧ g = n - k ∧ i = .int .i64 (k : Int) ∧ wr = w.alloc (.cells (rowA n k) 5))
  case atStart => exact ⟨0, Nat.zero_le _, rfl, rfl, rfl⟩
  case round =>
    obtain ⟨k, hk, hgm, rfl, hw⟩ := hrel
    subst wr
    replace hgm := hidden hgm
    by_cases hlt : k < n
    · have hlt' : (k : Int) < (n : Int) := by omega
      have hst := hidden (rowA_succ n k hlt)
      obtain ⟨v, hv⟩ : ∃ v, (rowA n k)[k]? = some v := ⟨_, rowA_get n k k hlt⟩
      go_wp2
      go_roundg (n - (k + 1))
      case measure => rw [hgm.out]; omega
      case rel => exact ⟨k + 1, hlt, rfl, by simp, by rw [← hst.out]⟩
    · obtain rfl : k = n := by omega
      clear hgm
      have hB1 := hidden ((Below.refl w.heap.size w).alloc (Nat.le_refl _) (.cells (rowA k k) 5))
      by_cases h0 : k = 0
      · have h0' : (k : Int) = 0 := by omega
        have kE : ∀ w, Calls Try.prog 17 #[.string ⟨#[]⟩] w fun e w' => e = .returned (.bool false) ∧ w' = w := fun w => ok_calls ⟨#[]⟩ w
        replace kE := hidden kE
        clear h0
        generalize rowA k k = R at *
        go_wp2_with fail
        refine (kE.out _).mono ?_
        rintro e w5 ⟨rfl, hw⟩
        subst w5
        go_wp2_with fail
        refine (kA.out _).mono ?_
        rintro e w6 ⟨rfl, hB⟩
        have hB6 := hidden (hB1.out.trans (hB.mono hB1.out.size))
        clear hB
        go_wp2
        go_ret
        exact ⟨rfl, hB6.out⟩
      · have h0' : ¬ (k : Int) = 0 := by omega
        have hpk : (0 : Int) < (k : Int) := by omega
        obtain ⟨f2, g2, hf2, hf20, hf21, hg2, hg20, hg21⟩ := and_rem zt 255 (k : Int) (by omega) (by omega) hpk
        obtain ⟨m, rfl⟩ := Int.eq_ofNat_of_zero_le hg20
        have hm : m < k := by omega
        obtain ⟨v, hv⟩ : ∃ v, (rowA k k)[m]? = some v := ⟨_, rowA_get k k m hm⟩
        have hqc := hidden (qs_cells k m c)
        have hqok := hidden (qs_ok k m c hm)
        have hql := hidden (qs_len k m c)
        clear h0 hB1
        generalize hR : rowA k k = R at *
        clear hR
        go_upto_region 11 with fail
        go_cut [9] (fun gd wx => gd = .bool (letterB c) ∧ wx = w.alloc (.cells (R.setIfInBounds m (.int .u8 (c.toNat : Int))) 5))
        case first =>
          have hL := hidden (letter_def c)
          clear hqc hqok hql kA
          generalize letterB c = lc at *
          generalize (c.toNat : Int) = zc at *
          by_cases a1 : (97 : Int) ≤ zc <;> by_cases a2 : zc ≤ 122 <;> by_cases b1 : (65 : Int) ≤ zc <;> by_cases b2 : zc ≤ 90 <;> by_cases c1 : (48 : Int) ≤ zc <;> by_cases c2 : zc ≤ 57
          all_goals first
            | (exfalso; omega)
            | (go_wp2
               go_meet
               case rel => exact ⟨congrArg Value.bool (by rw [hL.out]; simp [a1, a2, b1, b2, c1, c2]), rfl⟩)
        case rest =>
          obtain ⟨rfl, hwc⟩ := hcut
          have hB1 : Below w.heap.size w wc := by rw [hwc]; exact (Below.refl w.heap.size w).alloc (Nat.le_refl _) _
          have hbb : w.heap.size < wc.heap.size := by rw [hwc]; simp
          have hrow : ∀ j x, (qs k m c)[j]? = some x → wc.cell? ⟨w.heap.size, j, none⟩ = some (.int .u8 (x.toNat : Int)) := fun j x hj => by rw [hwc, cells_new]; exact hqc.out j x hj
          clear hwc hqc hv
          have hcv : (convert 36 36 (.slice (some ⟨wc.heap.size, 0, none⟩) 5 5)).run Try.prog (wc.alloc (.cells #[.int .u8 46, .int .u8 43, .int .u8 45, .int .u8 95, .int .u8 126] 5)) = .ok (.slice (some ⟨wc.heap.size, 0, none⟩) 5 5) (wc.alloc (.cells #[.int .u8 46, .int .u8 43, .int .u8 45, .int .u8 95, .int .u8 126] 5 (5, 6))) :=
            Lib.run_convert_bytes_const (P := Try.prog) wc 36 5 #[.int .u8 46, .int .u8 43, .int .u8 45, .int .u8 95, .int .u8 126] 5 5 Try.underlying36 Try.underlying5
          have hB2 : Below wc.heap.size wc (wc.alloc (.cells #[.int .u8 46, .int .u8 43, .int .u8 45, .int .u8 95, .int .u8 126] 5 (5, 6))) := (Below.refl _ _).alloc (Nat.le_refl _) _
          have hsg : ∀ j x, sg[j]? = some x → (wc.alloc (.cells #[.int .u8 46, .int .u8 43, .int .u8 45, .int .u8 95, .int .u8 126] 5 (5, 6))).cell? ⟨wc.heap.size, j, none⟩ = some (.int .u8 x) := fun j x hj => by
            have hj5 : j < 5 := (List.getElem?_eq_some_iff.1 hj).1
            have : j = 0 ∨ j = 1 ∨ j = 2 ∨ j = 3 ∨ j = 4 := by omega
            rcases this with rfl | rfl | rfl | rfl | rfl <;> (simp [sg] at hj; subst hj; rw [cells_newM]; rfl)
          have hBB := hidden (hB1.trans (hB2.mono hB1.size))
          have hrow2 := hidden (fun j x hj => (hB2.cell (p := ⟨w.heap.size, j, none⟩) hbb).trans (hrow j x hj))
          replace hsg := hidden hsg
          clear hB1 hB2 hrow
          go_wp2_with fail
          clear hcv
          generalize wc.alloc (.cells #[.int .u8 46, .int .u8 43, .int .u8 45, .int .u8 95, .int .u8 126] 5 (5, 6)) = W2 at *
          go_loopg [9, 65] 5 (fun g gd i wr => ∃ j : Nat, j ≤ 5 ∧ g = 5 - j ∧ i = .int .i64 (j : Int) ∧ gd = .bool (goodK c j) ∧ wr = W2)
          case atStart => exact ⟨0, Nat.zero_le _, rfl, rfl, by rw [good_zero], rfl⟩
          case round =>
            obtain ⟨j, hj, hgj, rfl, rfl, hw⟩ := hrel
            subst wr
            replace hgj := hidden hgj
            by_cases hlt : j < 5
            · have hlt' : (j : Int) < 5 := by omega
              have hgx : sg[j]? = some (sg[j]'(by simpa [sg] using hlt)) := List.getElem?_eq_getElem _
              have hcell := hsg.out j _ hgx
              have hnx := hidden (good_succ c j _ hgx)
              clear hgx
              generalize sg[j]'(by simpa [sg] using hlt) = x at hcell hnx
              cases hgk : goodK c j
              · by_cases hcx : (c.toNat : Int) = x
                · go_wp2
                  go_roundg (5 - (j + 1))
                  case measure => rw [hgj.out]; omega
                  case rel => exact ⟨j + 1, hlt, rfl, by simp, by rw [hnx.out, hgk]; simp [hcx], rfl⟩
                · have hcx' : ((c.toNat : Int) == x) = false := by simp [hcx]
                  go_wp2
                  go_roundg (5 - (j + 1))
                  case measure => rw [hgj.out]; omega
                  case rel => exact ⟨j + 1, hlt, rfl, by simp, by rw [hnx.out, hgk]; simp [hcx], rfl⟩
              · go_wp2
                go_roundg (5 - (j + 1))
                case measure => rw [hgj.out]; omega
                case rel => exact ⟨j + 1, hlt, rfl, by simp, by rw [hnx.out, hgk]; rfl, rfl⟩
            · obtain rfl : j = 5 := by omega
              rw [good_all]
              have hconv := conv_row W2 w.heap.size k (qs k m c) hrow2.out
              rw [hql.out] at hconv
              have kO := hidden (fun w => (by have h := ok_calls (mkB (qs k m c)) w; rw [mk_list] at h; exact h : Calls Try.prog 17 #[.string (mkB (qs k m c))] w fun e w' => e = .returned (.bool (okB (qs k m c))) ∧ w' = w))
              clear hgj hsg hrow2 hql
              by_cases hd : k = 1 ∧ c = 46
              · obtain ⟨rfl, rfl⟩ := hd
                obtain rfl : m = 0 := by omega
                rw [qs_dot] at kO
                have hcc : (((46 : UInt8).toNat : Nat) : Int) = 46 := rfl
                clear hqok
                generalize mkB (qs 1 0 46) = sq at *
                go_wp2_with fail
                refine (kO.out _).mono ?_
                rintro e w5 ⟨rfl, hw⟩
                subst w5
                go_wp2_with fail
                refine (kA.out _).mono ?_
                rintro e w6 ⟨rfl, hB⟩
                have hB6 := hidden (hBB.out.trans (hB.mono hBB.out.size))
                clear hB
                go_wp2
                go_ret
                exact ⟨rfl, hB6.out⟩
              · rw [hqok.out hd] at kO
                have hnd : ¬ (k : Int) = 1 ∨ ((k : Int) = 1 ∧ ¬ (c.toNat : Int) = 46) := by
                  by_cases h1 : k = 1
                  · refine Or.inr ⟨by omega, fun h => hd ⟨h1, ?_⟩⟩
                    have : c.toNat = 46 := by omega
                    exact UInt8.toNat_inj.1 this
                  · exact Or.inl (by omega)
                generalize mkB (qs k m c) = sq at *
                clear hqok hd
                rcases hnd with h1 | ⟨h1, h2⟩
                · cases hsc : signB c
                  · rw [hsc] at kO
                    go_wp2_with fail
                    refine (kO.out _).mono ?_
                    rintro e w5 ⟨rfl, hw⟩
                    subst w5
                    go_wp2_with fail
                    refine (kA.out _).mono ?_
                    rintro e w6 ⟨rfl, hB⟩
                    have hB6 := hidden (hBB.out.trans (hB.mono hBB.out.size))
                    clear hB
                    go_wp2
                    go_ret
                    exact ⟨rfl, hB6.out⟩
                  · rw [hsc] at kO
                    go_wp2_with fail
                    refine (kO.out _).mono ?_
                    rintro e w5 ⟨rfl, hw⟩
                    subst w5
                    go_wp2_with fail
                    refine (kA.out _).mono ?_
                    rintro e w6 ⟨rfl, hB⟩
                    have hB6 := hidden (hBB.out.trans (hB.mono hBB.out.size))
                    clear hB
                    go_wp2
                    go_ret
                    exact ⟨rfl, hB6.out⟩
                · have h2' : ((c.toNat : Int) == 46) = false := by simp [h2]
                  cases hsc : signB c
                  · rw [hsc] at kO
                    go_wp2_with fail
                    refine (kO.out _).mono ?_
                    rintro e w5 ⟨rfl, hw⟩
                    subst w5
                    go_wp2_with fail
                    refine (kA.out _).mono ?_
                    rintro e w6 ⟨rfl, hB⟩
                    have hB6 := hidden (hBB.out.trans (hB.mono hBB.out.size))
                    clear hB
                    go_wp2
                    go_ret
                    exact ⟨rfl, hB6.out⟩
                  · rw [hsc] at kO
                    go_wp2_with fail
                    refine (kO.out _).mono ?_
                    rintro e w5 ⟨rfl, hw⟩
                    subst w5
                    go_wp2_with fail
                    refine (kA.out _).mono ?_
                    rintro e w6 ⟨rfl, hB⟩
                    have hB6 := hidden (hBB.out.trans (hB.mono hBB.out.size))
                    clear hB
                    go_wp2
                    go_ret
                    exact ⟨rfl, hB6.out⟩
end Go.Proofs.Ythibelgeejgmeaa
