/- PlaceMany. -/
import Derived.Test.YtfnfhabepadikaaKD
namespace Go.Proofs.Ytfnfhabepadikaa
open Go Go.RowKit
set_option maxRecDepth 100000

def seqA (a each : Int) : Nat → List Int
  | 0 => []
  | m + 1 => a :: seqA (a + each) each m
theorem seqA_len (each : Int) : ∀ (m : Nat) (a : Int), (seqA a each m).length = m
  | 0, _ => rfl
  | m + 1, a => by rw [seqA, List.length_cons, seqA_len each m]
theorem seqA_get (each : Int) : ∀ (m : Nat) (a : Int) (i : Nat) (x : Int), (seqA a each m)[i]? = some x → x = a + i * each
  | 0, _, _, _, h => by simp [seqA] at h
  | m + 1, a, 0, x, h => by rw [seqA] at h; simp at h; rw [← h]; simp
  | m + 1, a, i + 1, x, h => by
    rw [seqA, List.getElem?_cons_succ] at h
    rw [seqA_get each m (a + each) i x h, Int.natCast_succ, Int.add_mul]
    omega
def fitsA (a each s e : Int) : Nat → Prop
  | 0 => True
  | m + 1 => a + s ≤ e ∧ fitsA (a + each) each s e m
theorem fits_of (each s e : Int) : ∀ (m : Nat) (a : Int), (∀ i : Nat, i < m → a + i * each + s ≤ e) → fitsA a each s e m
  | 0, _, _ => trivial
  | m + 1, a, h => by
    refine ⟨by have := h 0 (by omega); simpa using this, fits_of each s e m (a + each) fun i hi => ?_⟩
    have := h (i + 1) (by omega)
    rw [Int.natCast_succ, Int.add_mul] at this
    omega
/-- Where room is, when the bytes from fi to a are taken out of those from f to e. -/
def Left (f e a : Int) (l : List Rg) : Prop := Cln l ∧ ∀ k, inR l k ↔ f ≤ k ∧ k < e ∧ ¬ (upZ f ≤ k ∧ k < a)
theorem left_find {f e a s : Int} {l : List Rg} (h : Left f e a l) (ha : upZ f ≤ a) (hm : a % 16 = 0) (hs : 1 ≤ s) : findL l s = if a + s ≤ e then some a else none := by
  have hu := up_le f
  have hge : ∀ q, findL l s = some q → a ≤ q ∧ q + s ≤ e := fun q hq => by
    obtain ⟨h1, h2, r, hr, h3, h4⟩ := find_some hq
    have hms : max s 1 = s := by omega
    rw [hms] at h4
    have i1 := (h.2 q).1 ⟨r, hr, h3, by omega⟩
    have i2 := (h.2 (q + s - 1)).1 ⟨r, hr, by omega, by omega⟩
    have i3 := up_least i1.1 h2
    omega
  split
  · rename_i hfit
    obtain ⟨n, hn⟩ := Int.eq_ofNat_of_zero_le (show 0 ≤ s - 1 by omega)
    obtain ⟨r, hr, h1, h2⟩ := run_in n h.1 a fun k hk1 hk2 => (h.2 k).2 ⟨by omega, by omega, by omega⟩
    obtain ⟨q, hq, hle⟩ := find_first (p := a) (size := s) h.1 (by omega) hm ⟨r, hr, h1, by rw [show max s 1 = s by omega]; omega⟩
    rw [hq]
    have := hge q hq
    rw [show q = a by omega]
  · rename_i hfit
    cases hq : findL l s with
    | none => rfl
    | some q => have := hge q hq; omega
theorem left_take {f e a s : Int} {l : List Rg} (h : Left f e a l) (ha : upZ f ≤ a) (hm : a % 16 = 0) (hs : 1 ≤ s) : Left f e (a + upZ s) (takeL l (a, upZ (a + max s 1))) := by
  refine ⟨take_cln h.1 _, fun k => ?_⟩
  rw [take_in, h.2 k]
  dsimp only
  have : upZ (a + max s 1) = a + upZ s := by unfold upZ; omega
  have hu := up_le f
  have hv := up_le s
  rw [this]
  omega
theorem many_some {f e s : Int} (hs : 1 ≤ s) : ∀ (m : Nat) (a : Int) (l : List Rg) (acc : List Int), Left f e a l → upZ f ≤ a → a % 16 = 0 → fitsA a (upZ s) s e m → allA l acc (List.replicate m s) = some (acc ++ seqA a (upZ s) m)
  | 0, a, l, acc, _, _, _, _ => by simp [allA, seqA]
  | m + 1, a, l, acc, h, ha, hm, hf => by
    rw [List.replicate_succ, allA, left_find h ha hm hs, if_pos hf.1]
    dsimp only
    have hv := up_le s
    rw [many_some hs m (a + upZ s) _ _ (left_take h ha hm hs) (by omega) (by omega) hf.2, seqA]
    simp
theorem many_none {f e s : Int} (hs : 1 ≤ s) : ∀ (m : Nat) (a : Int) (l : List Rg) (acc : List Int), Left f e a l → upZ f ≤ a → a % 16 = 0 → ¬ fitsA a (upZ s) s e m → allA l acc (List.replicate m s) = none
  | 0, a, l, acc, _, _, _, hf => absurd trivial hf
  | m + 1, a, l, acc, h, ha, hm, hf => by
    rw [List.replicate_succ, allA, left_find h ha hm hs]
    have hv := up_le s
    by_cases h1 : a + s ≤ e
    · rw [if_pos h1]
      exact many_none hs m (a + upZ s) _ _ (left_take h ha hm hs) (by omega) (by omega) (fun h2 => hf ⟨h1, h2⟩)
    · rw [if_neg h1]
theorem fits_upto {each s e : Int} : ∀ (m : Nat) (a : Int), fitsA a each s e m → ∀ i : Nat, i < m → a + i * each + s ≤ e
  | 0, _, _, i, h => by omega
  | m + 1, a, hf, 0, _ => by simpa using hf.1
  | m + 1, a, hf, i + 1, h => by
    have := fits_upto m (a + each) hf.2 i (by omega)
    rw [Int.natCast_succ, Int.add_mul]
    omega
theorem left_one {f g : Int} (h0 : 0 ≤ f) (h1 : 0 ≤ g) (h2 : f + g ≤ 100000) : Left f (f + g) (upZ f) (cleanL [(f, f + g)]) := by
  obtain ⟨h3, h4⟩ := cleanL_is (L := [(f, f + g)]) ⟨by simp, fun a ha => by rw [List.mem_singleton] at ha; subst ha; exact ⟨h0, by dsimp only; omega, by dsimp only; omega⟩⟩
  refine ⟨h3, fun k => ?_⟩
  rw [h4, inR_one]
  dsimp only
  omega
theorem many_pure {f g s : Int} {n m : Nat} (h0 : 0 ≤ f) (h1 : 0 ≤ g) (h2 : f + g ≤ 100000) (hs : 1 ≤ s) (hk : ∀ i : Nat, i < n → upZ f + i * upZ s + s ≤ f + g) (hm : m = min n 16) (hn : n = 17 ∨ ¬ upZ f + n * upZ s + s ≤ f + g) (hn17 : n ≤ 17) :
    allR (cleanL [(f, f + g)]) (List.replicate m s) = some (seqA (upZ f) (upZ s) m) ∧ allR (cleanL [(f, f + g)]) (List.replicate m s ++ [s]) = none := by
  have hL := left_one h0 h1 h2
  have hu := up_le f
  refine ⟨?_, ?_⟩
  · unfold allR
    rw [if_pos (by rw [List.length_replicate]; omega), many_some hs m _ _ _ hL (Int.le_refl _) hu.2.2 (fits_of _ _ _ _ _ fun i hi => hk i (by omega))]
    rfl
  · unfold allR
    rw [← List.replicate_succ']
    split
    · rename_i hlen
      rw [List.length_replicate] at hlen
      refine many_none hs (m + 1) _ _ _ hL (Int.le_refl _) hu.2.2 fun hf => ?_
      have h3 := fits_upto (m + 1) _ hf m (by omega)
      have h4 : m = n := by omega
      rw [h4] at h3
      omega
    · rfl
set_option maxHeartbeats 8000000 in
theorem placeMany_calls (x y z : Int) (w : World) : Calls Try.prog 4 #[.int .i64 x, .int .i64 y, .int .i64 z] w fun e w' => e = .returned (.bool true) ∧ Below w.heap.size w w' := by
  have kA := hidden (fun wx => awake_calls wx)
  obtain ⟨f, hf, hf0, hf1⟩ := and_of x 255 (by omega) (by omega)
  obtain ⟨g, hg, hg0, hg1⟩ := and_of y 2047 (by omega) (by omega)
  obtain ⟨s0, s1, hs, hs0, hs1, ht, ht0, ht1⟩ := and_rem z 255 150 (by omega) (by omega) (by omega)
  obtain ⟨s, hse⟩ : ∃ s, s1 + 1 = s := ⟨_, rfl⟩
  have hs2 : 1 ≤ s ∧ s ≤ 150 := by omega
  have hus := up_le s
  have huf := up_le f
  have hpure := hidden (fun (n m : Nat) => many_pure (f := f) (g := g) (s := s) (n := n) (m := m) hf0 hg0 (by omega) hs2.1)
  have hv1 : 1 ≤ upZ s ∧ upZ s ≤ 160 := by omega
  have hv2 : 0 ≤ upZ f ∧ upZ f ≤ 270 := by omega
  have e1 : (s + 15) / 16 * 16 = upZ s := rfl
  have e2 : (f + 15) / 16 * 16 = upZ f := rfl
  have t1 : 0 ≤ (s + 15) / 16 ∧ (s + 15) / 16 ≤ 20 := by omega
  have t2 : 0 ≤ (f + 15) / 16 ∧ (f + 15) / 16 ≤ 20 := by omega
  obtain ⟨d1, hd1⟩ : ∃ d, (s + 15) / 16 = d := ⟨_, rfl⟩
  obtain ⟨d2, hd2⟩ : ∃ d, (f + 15) / 16 = d := ⟨_, rfl⟩
  rw [hd1] at e1 t1
  rw [hd2] at e2 t2
  have hRg := hidden (fun wx => rg_lit1 wx f (f + g))
  have hL0 := hidden (kA.out)
  clear hus huf
  generalize upZ s = c at *
  generalize upZ f = a at *
  have hfg : 0 ≤ f + g ∧ f + g ≤ 3000 := by omega
  go_enter Try.func4, Try.ntmps4
  go_wp2_with fail
  generalize hw1 : w.alloc (Obj.cells #[Value.int .i64 f, Value.int .i64 (f + g)] 25) = w1
  have hR1 := hidden (show RgAt w1 (.slice (some ⟨w.heap.size, 0, none⟩) 1 1) [(f, f + g)] ∧ Below w.heap.size w w1 from ⟨by rw [← hw1]; exact hRg.out w, by rw [← hw1]; exact box_new _ _⟩)
  have hse1 := hidden hse
  clear hw1 hRg hf hg hs ht hd1 hd2 e1 e2
  go_loopg [10] 17 (fun fu si wr => ∃ k : Nat, k ≤ 17 ∧ fu = 17 - k ∧ si = .int .i64 (k : Int) ∧ wr = w1 ∧ Hid (∀ i : Nat, i < k → a + i * c + s ≤ f + g))
  case atStart => exact ⟨0, by omega, rfl, rfl, rfl, hidden fun i hi => by omega⟩
  case round =>
    obtain ⟨n, hn, hfu, rfl, rfl, hI⟩ := hrel
    replace hfu := hidden hfu
    have hp1 : 0 ≤ (n : Int) * c := Int.mul_nonneg (by omega) (by omega)
    have hp2 : (n : Int) * c ≤ 17 * 160 := Int.mul_le_mul (by omega) (by omega) (by omega) (by omega)
    obtain ⟨p, hp⟩ : ∃ p, (n : Int) * c = p := ⟨_, rfl⟩
    have hI2 := hidden (show a + p + s ≤ f + g → ∀ i : Nat, i < n + 1 → a + i * c + s ≤ f + g from fun h i hi => by
      rcases Nat.lt_or_eq_of_le (Nat.le_of_lt_succ hi) with h1 | rfl
      · exact hI.out i h1
      · rw [hp]; exact h)
    rw [hp] at hp1 hp2
    obtain ⟨q, hq⟩ : ∃ q : Bool, decide (n < 17 ∧ a + p + s ≤ f + g) = q := ⟨_, rfl⟩
    replace hq := hidden hq
    go_upto_region 6 with fail
    go_cut [54] from 40 to 54 (fun v wx => v = .bool q ∧ wx = wr)
    case first =>
      by_cases h17 : n < 17
      · have h17c : (n : Int) < 17 := by omega
        by_cases hft : a + p + s ≤ f + g
        · go_wp2
          go_meet
          case rel => exact ⟨by rw [← hq.out, decide_eq_true (show n < 17 ∧ a + p + s ≤ f + g from ⟨h17, hft⟩)], rfl⟩
        · go_wp2
          go_meet
          case rel => exact ⟨by rw [← hq.out, decide_eq_false (show ¬ (n < 17 ∧ a + p + s ≤ f + g) by omega)], rfl⟩
      · have h17c : ¬ (n : Int) < 17 := by omega
        go_wp2
        go_meet
        case rel => exact ⟨by rw [← hq.out, decide_eq_false (show ¬ (n < 17 ∧ a + p + s ≤ f + g) by omega)], rfl⟩
    case rest =>
      obtain ⟨rfl, rfl⟩ := hcut
      rename World => wr
      cases q
      rotate_left
      · obtain ⟨h17a, h17b⟩ := of_decide_eq_true hq.out
        have h17c : (n : Int) < 17 := by omega
        have hI3 := hidden (hI2.out h17b)
        clear hI hI2
        go_wp2
        go_roundg (17 - (n + 1))
        case measure => rw [hfu.out]; omega
        case rel => exact ⟨n + 1, by omega, rfl, by go_num, rfl, hI3⟩
      · have h17 := of_decide_eq_false hq.out
        obtain ⟨m, hm⟩ : ∃ m : Nat, m = min n 16 := ⟨_, rfl⟩
        obtain ⟨R1, R2⟩ := hpure.out n m hI.out hm (by rw [hp]; omega) hn
        replace R1 := hidden R1
        replace R2 := hidden R2
        have hn17 := hidden hn
        have hm16 : m ≤ 16 := by omega
        replace hm := hidden hm
        replace hp := hidden hp
        clear hI hI2 hfu hp1 hp2 h17 hq
        go_wp2_with fail
        go_loopg [11, 12] m (fun fu vs si wr2 => ∃ k : Nat, k ≤ m ∧ fu = m - k ∧ si = .int .i64 (k : Int) ∧ Hid (Kept wr.heap.size wr2 vs (List.replicate k s) ∧ Below wr.heap.size wr wr2))
        case atStart => exact ⟨0, Nat.zero_le _, rfl, rfl, hidden ⟨Kept.nil _ _, Below.refl _ _⟩⟩
        case round =>
          obtain ⟨k, hk, hfu, rfl, hI⟩ := hrel
          replace hfu := hidden hfu
          rename World => w2
          go_upto_region 10 with fail
          go_cut [60] from 57 to 60 (fun v wx => v = .bool (decide (k < m)) ∧ wx = w2)
          case first =>
            have h3 := hidden (show decide (k < m) = decide ((k : Int) < min (n : Int) 16) by rw [hm.out]; congr 1; apply propext; omega)
            go_wp2
            go_meet
            case rel => exact ⟨by rw [h3.out], rfl⟩
          case rest =>
            obtain ⟨rfl, rfl⟩ := hcut
            rename World => w2
            obtain ⟨hK, hB⟩ := hI.out
            by_cases hkm : k < m
            · rw [decide_eq_true hkm]
              obtain ⟨v3, w3, hrun, hK3, hB3, -⟩ := hK.push s (by rw [List.length_replicate]; omega) hB.size
              have hE := hidden (show Kept wr.heap.size w3 v3 (List.replicate (k + 1) s) ∧ Below wr.heap.size wr w3 from ⟨by rw [List.replicate_succ']; exact hK3, hB.trans hB3⟩)
              replace hrun := hidden hrun
              clear hI hK hB hK3 hB3
              go_wp2_with (at_builtin; refine wpList_append_eq _ _ 30 rfl _ _ v3 w3 rfl rfl hrun.out rfl ?_)
              go_roundg (m - (k + 1))
              case measure => rw [hfu.out]; omega
              case rel => exact ⟨k + 1, by omega, rfl, by go_num, hE⟩
            · rw [decide_eq_false hkm]
              obtain rfl : k = m := by omega
              obtain ⟨av, acap, hv, -⟩ := hK.form
              rw [List.length_replicate] at hv
              subst hv
              have hB2 := hidden (hR1.out.2.trans (hB.mono hR1.out.2.size))
              have kF := hidden (all_calls [(f, f + g)] (List.replicate k s) w2 _ _ (hR1.out.1.below hB) hK.at (by simp) (by simp; omega))
              rw [R1.out] at kF
              dsimp only [Option.isSome, Option.getD] at kF
              have hRw := hidden (fun (wx : World) (hx : Below w2.heap.size w2 wx) => (hR1.out.1.below hB).below hx)
              have hKw := hidden hK
              clear hI hK hB R1 hR1 hpure hL0
              go_wp2_with fail
              refine kF.out.mono ?_
              rintro e w3 ⟨⟨v3, rfl, hA3⟩, hB3⟩
              obtain ⟨a3, cap3, hv3, -, hc3⟩ := hA3
              rw [seqA_len] at hv3
              subst hv3
              have hB4 := hidden (hB2.out.trans (hB3.mono hB2.out.size))
              have hRw2 := hidden (fun (wx : World) (hx : Below w3.heap.size w3 wx) => hRw.out wx (hB3.trans (hx.mono hB3.size)))
              have hKw2 := hidden (hKw.out.below hB3)
              replace hc3 := hidden hc3
              clear hB2 hB3 hRw hKw kF
              go_wp2_with fail
              go_loopg [15] k (fun fu si wr3 => ∃ i : Nat, i ≤ k ∧ fu = k - i ∧ si = .int .i64 (i : Int) ∧ wr3 = w3)
              case atStart => exact ⟨0, Nat.zero_le _, rfl, rfl, rfl⟩
              case round =>
                obtain ⟨i, hi, hfu, rfl, rfl⟩ := hrel
                replace hfu := hidden hfu
                by_cases hik : i < k
                · have hik' : (i : Int) < (k : Int) := by omega
                  have hlen := hidden (seqA_len c k a)
                  obtain ⟨b, off, rfl, hbl, hx⟩ := hc3.out (by intro h; have := hlen.out; rw [h] at this; simp at this; omega)
                  obtain ⟨t, hget⟩ : ∃ t, (seqA a c k)[i]? = some t := ⟨_, List.getElem?_eq_getElem (by rw [hlen.out]; exact hik)⟩
                  have f0 := hx i _ hget
                  have ht := seqA_get c k a i t hget
                  have hp1 : 0 ≤ (i : Int) * c := Int.mul_nonneg (by omega) (by omega)
                  have hp2 : (i : Int) * c ≤ 17 * 160 := Int.mul_le_mul (by omega) (by omega) (by omega) (by omega)
                  obtain ⟨p, hp⟩ : ∃ p, (i : Int) * c = p := ⟨_, rfl⟩
                  rw [hp] at hp1 hp2 ht
                  subst ht
                  clear hx hget
                  go_wp2
                  go_roundg (k - (i + 1))
                  case measure => rw [hfu.out]; omega
                  case rel => exact ⟨i + 1, by omega, rfl, by go_num, rfl⟩
                · obtain rfl : i = k := by omega
                  rename World => w3
                  obtain ⟨v4, w4, hrun4, hK4, hB5⟩ := kept_more (kept_new (base := w3.heap.size) w3 w3.heap.size rfl (Nat.le_refl _)) (hKw2.out.below (box_new w3 (.cells #[] 3))) (by simp; omega) (box_new w3 _).size 30
                  have hB6 := (box_new w3 (.cells #[] 3)).trans hB5
                  obtain ⟨v5, w5, hrun5, hK5, hB7, -⟩ := hK4.push s (by simp; omega) hB6.size
                  have hB8 := hB6.trans hB7
                  have kG := hidden (all_calls [(f, f + g)] (List.replicate i s ++ [s]) w5 _ _ (hRw2.out _ hB8) hK5.at (by simp) (by simp; omega))
                  rw [R2.out] at kG
                  dsimp only [Option.isSome, Option.getD] at kG
                  have hB9 := hidden (hB4.out.trans (hB8.mono hB4.out.size))
                  replace hrun4 := hidden hrun4
                  replace hrun5 := hidden hrun5
                  clear hK4 hK5 hB5 hB6 hB7 hB8 hRw2 hKw2 hc3 R2 hB4
                  go_wp2_with (first
                    | (at_builtin; refine wpList_append_eq _ _ 30 rfl _ _ v4 w4 rfl rfl hrun4.out rfl ?_)
                    | (at_builtin; refine wpList_append_eq _ _ 30 rfl _ _ v5 w5 rfl rfl hrun5.out rfl ?_)
                    | (go_at_call 11; refine kG.out.mono ?_; rintro e w6 ⟨⟨v6, rfl, -⟩, hBa⟩; have hBb := hidden (hB9.out.trans (hBa.mono hB9.out.size)); clear hBa hB9 kG)
                    | (go_at_call 10; refine (kA.out _).mono ?_; rintro e w7 ⟨rfl, hBc⟩; have hBd := hidden (hBb.out.trans (hBc.mono hBb.out.size)); clear hBc hBb))
                  go_ret
                  exact ⟨rfl, hBd.out⟩
end Go.Proofs.Ytfnfhabepadikaa
