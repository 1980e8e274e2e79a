/- VersionLong answers true, whatever it is given, and changes nothing that was there. -/
import Derived.Test.YtpminhgkacgplaaDoorVQ
import Derived.Test.YtpminhgkacgplaaDoorVC
namespace Go.Proofs.YtpminhgkacgplaaDoor
open Go Go.RowKit
set_option maxRecDepth 100000

def nineB (N D : Nat) : List UInt8 := List.replicate (N - 1) 57 ++ [UInt8.ofNat (48 + D)]
theorem nine_len (N D : Nat) (h : 2 ≤ N) : (nineB N D).length = N := by simp [nineB]; omega
theorem nine_dig (N D : Nat) (hD : D < 10) : allDig (nineB N D) := by
  intro c hc
  rcases List.mem_append.1 hc with hc | hc
  · rw [(List.mem_replicate.1 hc).2]; decide
  · simp only [List.mem_singleton] at hc; rw [hc]; exact (dig_cls D hD).1
theorem nine_strip (N D : Nat) (h : 2 ≤ N) : (nineB N D).dropWhile (· == 48) = nineB N D := by
  obtain ⟨m, rfl⟩ : ∃ m, N = m + 2 := ⟨N - 2, by omega⟩
  unfold nineB
  rw [show m + 2 - 1 = m + 1 by omega, List.replicate_succ, List.cons_append, List.dropWhile_cons, if_neg (by decide)]
theorem nine_ne (N D : Nat) : nineB N D ≠ [] := by simp [nineB]
theorem nine_toks (N D : Nat) (h : 2 ≤ N) (hD : D < 10) : toksB (nineB N D) = [(3, nineB N D)] := by
  rw [toks_digits _ (nine_dig N D hD) (nine_ne N D), nine_strip N D h]
theorem nine_toks0 (N D : Nat) (h : 2 ≤ N) (hD : D < 10) : toksB ([48, 48, 48, 48] ++ nineB N D) = [(3, nineB N D)] := by
  have h1 : allDig ([48, 48, 48, 48] ++ nineB N D) := by
    intro c hc
    rcases List.mem_append.1 hc with hc | hc
    · have : ∀ c ∈ ([48, 48, 48, 48] : List UInt8), clsB c = 3 := by decide
      exact this c hc
    · exact nine_dig N D hD c hc
  have h2 : ([48, 48, 48, 48] ++ nineB N D).dropWhile (· == 48) = (nineB N D).dropWhile (· == 48) := rfl
  rw [toks_digits _ h1 (by simp), h2, nine_strip N D h]
theorem cmp_one (p q : List UInt8) (a b : Tok) (hp : toksB p = [a]) (hq : toksB q = [b]) : cmpV p q = holdB a b := by
  rw [cmpV, hp, hq, cmpL]
  split
  · rename_i h; rw [h]; rfl
  · rfl
theorem best_two (p q : List UInt8) : bestF [p, q] 2 = if 0 < cmpV q p then 1 else 0 := by
  show (if bestF [p, q] 1 < 0 then ((1 : Nat) : Int) else if 0 < cmpV ([p, q].getD 1 []) ([p, q].getD (bestF [p, q] 1).toNat []) then ((1 : Nat) : Int) else bestF [p, q] 1) = _
  have h1 : bestF [p, q] 1 = 0 := rfl
  rw [h1]; rfl
theorem FillAt.last {g N : Nat} {c x : Int} {w : World} (h : FillAt g N N c w) (hc : 0 ≤ c ∧ c ≤ 255) (hx : 0 ≤ x ∧ x ≤ 255) (hN : N ≤ 5000) (h1 : 1 ≤ N) :
    BytesAt (w.setCell ⟨g, N - 1, none⟩ (.int .u8 x)) (.slice (some ⟨g, 0, none⟩) N N) (List.replicate (N - 1) c ++ [x]) := by
  obtain ⟨C, q1, q2, q3⟩ := h.ex
  have hl : (List.replicate (N - 1) c ++ [x]).length = N := by simp; omega
  have hh : (w.setCell ⟨g, N - 1, none⟩ (.int .u8 x)).heap[g]? = some (.cells (C.setIfInBounds (N - 1) (.int .u8 x)) 5 (0, 0)) := by
    simp only [World.setCell, Array.getElem?_modify, q1]; simp
  refine ⟨_, N, by rw [hl], fun z hz => ?_, by rw [hl]; unfold maxLen; omega, fun h => by (cases h), fun _ => ⟨g, 0, rfl, ?_, fun k hk => ?_⟩⟩
  · rcases List.mem_append.1 hz with hz | hz
    · rw [(List.mem_replicate.1 hz).2]; exact hc
    · simp only [List.mem_singleton] at hz; rw [hz]; exact hx
  · rcases Nat.lt_or_ge g (w.setCell ⟨g, N - 1, none⟩ (.int .u8 x)).heap.size with h | h
    · exact h
    · rw [Array.getElem?_eq_none h] at hh; cases hh
  · rw [hl] at hk
    rw [Nat.zero_add]
    simp only [World.cell?, hh]
    by_cases e : k = N - 1
    · subst e
      simp [q2, List.getD, hk]
    · have hk2 : k < N - 1 := by omega
      rw [show (C.setIfInBounds (N - 1) (Value.int .u8 x))[k]? = C[k]? by rw [Array.getElem?_setIfInBounds_ne (Ne.symm e)], q3 k hk]
      have : (List.replicate (N - 1) c ++ [x])[k]? = some c := by rw [List.getElem?_append_left (by simpa using hk2)]; simp [hk2]
      rw [List.getD_eq_getElem?_getD, this]; rfl
theorem nine_of (N D : Nat) : ofBytes (List.replicate (N - 1) 57 ++ [48 + (D : Int)]) = mkB (nineB N D) := by
  rw [← mk_back (ofBytes _), ofB_list]
  rw [List.map_append, List.map_replicate]
  show mkB (_ ++ [UInt8.ofNat ((48 + (D : Int)).toNat)]) = _
  rw [show (48 + (D : Int)).toNat = 48 + D by omega]; rfl
set_option maxHeartbeats 4000000 in
theorem row_calls (n d : Int) (N D : Nat) (hN : bits .and .i64 n 63 + 20 = (N : Int)) (hb : 20 ≤ N ∧ N ≤ 83) (hD : bits .and .i64 d 7 = (D : Int)) (hDb : D ≤ 7) (w : World) :
    Calls Tryd.prog 12 #[.int .i64 n, .int .i64 d] w fun e w' => e = .returned (.string (mkB (nineB N D))) ∧ Below w.heap.size w w' := by
  obtain ⟨M, hM⟩ : ∃ M : Nat, bits .and .i64 n 63 = (M : Int) := ⟨N - 20, by omega⟩
  have hMN : (M : Int) + 20 = (N : Int) := by rw [← hM]; exact hN
  clear hN
  obtain ⟨C, hC, hmk⟩ := make_fill N (by omega) w
  have hF0 := hidden (show FillAt w.heap.size N 0 57 (w.alloc (.cells C 5)) from ⟨C, one_new _ _, hC, fun j hj => absurd hj (Nat.not_lt_zero j)⟩)
  have hB0 := hidden (show Below w.heap.size w (w.alloc (.cells C 5)) from (Below.refl _ _).alloc (Nat.le_refl _) _)
  replace hC := hidden hC
  go_enter Tryd.func12, Tryd.ntmps12
  go_wp2_with fail
  go_loopg [13] N (fun gk i wr => ∃ k : Nat, k ≤ N ∧ gk = N - k ∧ i = .int .i64 (k : Int) ∧ Hid (FillAt w.heap.size N k 57 wr ∧ Below w.heap.size w wr))
  case atStart => exact ⟨0, Nat.zero_le _, rfl, rfl, hidden ⟨hF0.out, hB0.out⟩⟩
  case round =>
    obtain ⟨k, hk, hg, rfl, hV⟩ := hrel
    replace hg := hidden hg
    by_cases hlt : k < N
    · have hlt' : (k : Int) < (N : Int) := by omega
      obtain ⟨u, hu⟩ := hV.out.1.cell hlt
      have hf := hV.out.1.free k
      have hE := hidden (And.intro (hV.out.1.put hlt) (hV.out.2.setCell (p := ⟨w.heap.size, k, none⟩) (Nat.le_refl _) (.int .u8 57)))
      clear hV hmk
      go_wp2
      go_roundg (N - (k + 1))
      case measure => rw [hg.out]; omega
      case rel => exact ⟨k + 1, hlt, rfl, by simp, hidden hE.out⟩
    · obtain rfl : k = N := by omega
      obtain ⟨u, hu⟩ := hV.out.1.cell (show k - 1 < k by omega)
      have hf := hV.out.1.free (k - 1)
      have hcv := conv_bytes _ _ _ (hV.out.1.last (x := 48 + (D : Int)) (by omega) (by omega) (by omega) (by omega))
      rw [nine_of] at hcv
      have hB := hidden (hV.out.2.setCell (p := ⟨w.heap.size, k - 1, none⟩) (Nat.le_refl _) (.int .u8 (48 + (D : Int))))
      have hk1 : (k : Int) - 1 = ((k - 1 : Nat) : Int) := by omega
      have hk2 : ((k - 1 : Nat) : Int) < (k : Int) := by omega
      generalize k - 1 = j at *
      have hD2 : (D : Int) ≤ 7 := by omega
      clear hV hmk
      go_wp2
      go_ret
      exact ⟨rfl, hB.out⟩
theorem texts_new2 (w : World) (p q : List UInt8) : TxtsAt (w.alloc (Obj.cells #[Value.string (mkB p), Value.string (mkB q)] 9)) (.slice (some ⟨w.heap.size, 0, none⟩) 2 2) [p, q] := by
  refine ⟨_, 2, rfl, Nat.le_refl 2, fun _ => ⟨w.heap.size, 0, rfl, by simp, fun k x hk => ?_⟩⟩
  match k with
  | 0 => simp at hk; subst hk; simp
  | 1 => simp at hk; subst hk; simp
  | k + 2 => simp at hk
theorem hold_len (p q : List UInt8) : holdB (3, p) (3, q) = if p.length = q.length then Lib.compareBytes p q else Lib.compareInt (p.length : Int) (q.length : Int) := by
  rw [holdB, if_neg (by simp)]
  by_cases h : p.length = q.length
  · rw [if_neg (by simp [h]), if_pos h]
  · rw [if_pos ⟨rfl, h⟩, if_neg h]
set_option maxHeartbeats 8000000 in
theorem versionLong_calls (a b x y : Int) (w : World) : Calls Tryd.prog 4 #[.int .i64 a, .int .i64 b, .int .i64 x, .int .i64 y] w fun e w' => e = .returned (.bool true) ∧ Below w.heap.size w w' := by
  have kA := hidden (fun w => awake_calls w)
  obtain ⟨M, hM, hMb⟩ := mask_lit a 63 (by decide) (by decide)
  obtain ⟨M', hM', hMb'⟩ := mask_lit b 63 (by decide) (by decide)
  obtain ⟨D, hD, hDb⟩ := mask_lit x 7 (by decide) (by decide)
  obtain ⟨D', hD', hDb'⟩ := mask_lit y 7 (by decide) (by decide)
  have kP := hidden (fun w => row_calls a x (M + 20) D (by rw [hM]; rfl) (by omega) hD (by omega) w)
  have kQ := hidden (fun w => row_calls b y (M' + 20) D' (by rw [hM']; rfl) (by omega) hD' (by omega) w)
  have tp := nine_toks (M + 20) D (by omega) (by omega)
  have tq := nine_toks (M' + 20) D' (by omega) (by omega)
  have t0 := nine_toks0 (M + 20) D (by omega) (by omega)
  have lp := nine_len (M + 20) D (by omega)
  have lq := nine_len (M' + 20) D' (by omega)
  clear hM hM' hD hD'
  generalize nineB (M + 20) D = p at *
  generalize nineB (M' + 20) D' = q at *
  have c1 := cmp_one p q _ _ tp tq
  have c2 := cmp_one _ q _ _ t0 tq
  have c3 := best_two p q
  rw [cmpV_anti p q, c1] at c3
  have k1 := hidden (fun w => compare_calls p q w (by omega) (by omega))
  have k2 := hidden (fun w => compare_calls ([48, 48, 48, 48] ++ p) q w (by simp; omega) (by omega))
  have k3 := hidden (fun (v : Value) (w : World) (h : TxtsAt w v [p, q]) => newest_calls v _ w h (by intro z hz; simp at hz; rcases hz with rfl | rfl <;> omega) (by show 2 ≤ 1000000; omega))
  rw [c1] at k1
  rw [c2] at k2
  rw [show ([p, q] : List (List UInt8)).length = 2 from rfl, c3] at k3
  have hh := hold_len p q
  have e4 : (⟨#[48, 48, 48, 48]⟩ : ByteArray) ++ mkB p = mkB ([48, 48, 48, 48] ++ p) := mk_app [48, 48, 48, 48] p
  have zp : (mkB p).size = M + 20 := by rw [mk_size, lp]
  have zq : (mkB q).size = M' + 20 := by rw [mk_size, lq]
  have lss := less_cb p q
  have eqb : ((mkB p).toList == (mkB q).toList) = decide (Lib.compareBytes p q = 0) := by
    rw [mk_toList, mk_toList]
    by_cases h : Lib.compareBytes p q = 0
    · rw [cb_eq p q h, cb_self]; simp
    · have hn : ¬ p = q := fun e => h (by rw [e, cb_self])
      simp [h, hn]
  have tlp := mk_toList p
  have tlq := mk_toList q
  rw [tlp, tlq] at eqb
  have rb := cb_rng p q
  have hne : ¬ p.length = q.length → ¬ Lib.compareBytes p q = 0 := fun h e => h (by rw [cb_eq p q e])
  rw [lp, lq] at hh hne
  generalize [48, 48, 48, 48] ++ p = p0 at *
  generalize Lib.compareBytes p q = cb at *
  generalize holdB (3, p) (3, q) = z at *
  clear tp tq t0 lp lq c1 c2 c3
  have hcase : ((M : Int) + 20 < (M' : Int) + 20 ∧ z = -1 ∧ ¬ cb = 0) ∨ ((M' : Int) + 20 < (M : Int) + 20 ∧ z = 1 ∧ ¬ cb = 0) ∨ ((M : Int) = (M' : Int) ∧ z = cb) := by
    by_cases h1 : M < M'
    · refine Or.inl ⟨by omega, ?_, hne (by omega)⟩
      rw [hh, if_neg (by omega)]; exact cI_lt.2 (by omega)
    · by_cases h2 : M' < M
      · refine Or.inr (Or.inl ⟨by omega, ?_, hne (by omega)⟩)
        rw [hh, if_neg (by omega)]; exact cI_gt.2 (by omega)
      · exact Or.inr (Or.inr ⟨by omega, by rw [hh, if_pos (by omega)]⟩)
  clear hh hne
  go_enter Tryd.func4, Tryd.ntmps4
  go_wp2_with fail
  refine (kP.out _).mono ?_
  rintro e w1 ⟨rfl, hb1⟩
  replace hb1 := hidden hb1
  go_wp2_with fail
  refine (kQ.out _).mono ?_
  rintro e w2 ⟨rfl, hb2⟩
  replace hb2 := hidden (hb1.out.trans (hb2.mono hb1.out.size))
  clear kP kQ hb1
  go_upto_region 4 with fail
  rcases hcase with ⟨hl, rfl, hcb⟩ | ⟨hl, rfl, hcb⟩ | ⟨hl, rfl⟩
  · have hcb' : (p == q) = false := by rw [eqb]; simp [hcb]
    clear eqb lss rb
    rw [show (if (0 : Int) < -(-1) then (1 : Int) else 0) = 1 from rfl] at k3
    have hmx : max (1 : Int) 0 = 1 := by decide
    go_upto_region 8 with fail
    go_wp2_with fail
    refine (k1.out _).mono ?_
    rintro e w3 ⟨rfl, hb3⟩
    replace hb3 := hidden (hb2.out.trans (hb3.mono hb2.out.size))
    go_wp2_with fail
    refine (k2.out _).mono ?_
    rintro e w4 ⟨rfl, hb4⟩
    replace hb4 := hidden (hb3.out.trans (hb4.mono hb3.out.size))
    have hT := hidden (texts_new2 w4 p q)
    have hal := hidden (show Below w.heap.size w (w4.alloc (Obj.cells #[Value.string (mkB p), Value.string (mkB q)] 9)) from hb4.out.trans (((Below.refl w4.heap.size w4).alloc (Nat.le_refl _) _).mono hb4.out.size))
    go_wp2_with fail
    refine (k3.out _ _ hT.out).mono ?_
    rintro e w5 ⟨rfl, hb5⟩
    replace hb5 := hidden (hal.out.trans (hb5.mono hal.out.size))
    go_wp2_with fail
    refine (kA.out _).mono ?_
    rintro e w6 ⟨rfl, hb6⟩
    replace hb6 := hidden (hb5.out.trans (hb6.mono hb5.out.size))
    go_wp2
    go_ret
    exact ⟨rfl, hb6.out⟩
  · have hcb' : (p == q) = false := by rw [eqb]; simp [hcb]
    clear eqb lss rb
    rw [show (if (0 : Int) < -1 then (1 : Int) else 0) = 0 from rfl] at k3
    have hmx : max (-1 : Int) 0 = 0 := by decide
    go_upto_region 8 with fail
    go_wp2_with fail
    refine (k1.out _).mono ?_
    rintro e w3 ⟨rfl, hb3⟩
    replace hb3 := hidden (hb2.out.trans (hb3.mono hb2.out.size))
    go_wp2_with fail
    refine (k2.out _).mono ?_
    rintro e w4 ⟨rfl, hb4⟩
    replace hb4 := hidden (hb3.out.trans (hb4.mono hb3.out.size))
    have hT := hidden (texts_new2 w4 p q)
    have hal := hidden (show Below w.heap.size w (w4.alloc (Obj.cells #[Value.string (mkB p), Value.string (mkB q)] 9)) from hb4.out.trans (((Below.refl w4.heap.size w4).alloc (Nat.le_refl _) _).mono hb4.out.size))
    go_wp2_with fail
    refine (k3.out _ _ hT.out).mono ?_
    rintro e w5 ⟨rfl, hb5⟩
    replace hb5 := hidden (hal.out.trans (hb5.mono hal.out.size))
    go_wp2_with fail
    refine (kA.out _).mono ?_
    rintro e w6 ⟨rfl, hb6⟩
    replace hb6 := hidden (hb5.out.trans (hb6.mono hb5.out.size))
    go_wp2
    go_ret
    exact ⟨rfl, hb6.out⟩
  · obtain rfl : M = M' := by omega
    clear hl
    rcases rb with rfl | rfl | rfl
    · have hcb' : (p == q) = false := by rw [eqb]; rfl
      have lss' : Op.bytesLess p q = true := by rw [lss]; rfl
      clear eqb lss
      rw [show (if (0 : Int) < -(-1) then (1 : Int) else 0) = 1 from rfl] at k3
      have hmx : max (1 : Int) 0 = 1 := by decide
      go_upto_region 8 with fail
      go_wp2_with fail
      refine (k1.out _).mono ?_
      rintro e w3 ⟨rfl, hb3⟩
      replace hb3 := hidden (hb2.out.trans (hb3.mono hb2.out.size))
      go_wp2_with fail
      refine (k2.out _).mono ?_
      rintro e w4 ⟨rfl, hb4⟩
      replace hb4 := hidden (hb3.out.trans (hb4.mono hb3.out.size))
      have hT := hidden (texts_new2 w4 p q)
      have hal := hidden (show Below w.heap.size w (w4.alloc (Obj.cells #[Value.string (mkB p), Value.string (mkB q)] 9)) from hb4.out.trans (((Below.refl w4.heap.size w4).alloc (Nat.le_refl _) _).mono hb4.out.size))
      go_wp2_with fail
      refine (k3.out _ _ hT.out).mono ?_
      rintro e w5 ⟨rfl, hb5⟩
      replace hb5 := hidden (hal.out.trans (hb5.mono hal.out.size))
      go_wp2_with fail
      refine (kA.out _).mono ?_
      rintro e w6 ⟨rfl, hb6⟩
      replace hb6 := hidden (hb5.out.trans (hb6.mono hb5.out.size))
      go_wp2
      go_ret
      exact ⟨rfl, hb6.out⟩
    · have hcb' : (p == q) = true := by rw [eqb]; rfl
      have lss' : Op.bytesLess p q = false := by rw [lss]; rfl
      clear eqb lss
      rw [show (if (0 : Int) < -0 then (1 : Int) else 0) = 0 from rfl] at k3
      go_upto_region 8 with fail
      go_wp2_with fail
      refine (k1.out _).mono ?_
      rintro e w3 ⟨rfl, hb3⟩
      replace hb3 := hidden (hb2.out.trans (hb3.mono hb2.out.size))
      go_wp2_with fail
      refine (k2.out _).mono ?_
      rintro e w4 ⟨rfl, hb4⟩
      replace hb4 := hidden (hb3.out.trans (hb4.mono hb3.out.size))
      have hT := hidden (texts_new2 w4 p q)
      have hal := hidden (show Below w.heap.size w (w4.alloc (Obj.cells #[Value.string (mkB p), Value.string (mkB q)] 9)) from hb4.out.trans (((Below.refl w4.heap.size w4).alloc (Nat.le_refl _) _).mono hb4.out.size))
      go_wp2_with fail
      refine (k3.out _ _ hT.out).mono ?_
      rintro e w5 ⟨rfl, hb5⟩
      replace hb5 := hidden (hal.out.trans (hb5.mono hal.out.size))
      go_wp2_with fail
      refine (kA.out _).mono ?_
      rintro e w6 ⟨rfl, hb6⟩
      replace hb6 := hidden (hb5.out.trans (hb6.mono hb5.out.size))
      go_wp2
      go_ret
      exact ⟨rfl, hb6.out⟩
    · have hcb' : (p == q) = false := by rw [eqb]; rfl
      have lss' : Op.bytesLess p q = false := by rw [lss]; rfl
      clear eqb lss
      rw [show (if (0 : Int) < -1 then (1 : Int) else 0) = 0 from rfl] at k3
      have hmx : max (-1 : Int) 0 = 0 := by decide
      go_upto_region 8 with fail
      go_wp2_with fail
      refine (k1.out _).mono ?_
      rintro e w3 ⟨rfl, hb3⟩
      replace hb3 := hidden (hb2.out.trans (hb3.mono hb2.out.size))
      go_wp2_with fail
      refine (k2.out _).mono ?_
      rintro e w4 ⟨rfl, hb4⟩
      replace hb4 := hidden (hb3.out.trans (hb4.mono hb3.out.size))
      have hT := hidden (texts_new2 w4 p q)
      have hal := hidden (show Below w.heap.size w (w4.alloc (Obj.cells #[Value.string (mkB p), Value.string (mkB q)] 9)) from hb4.out.trans (((Below.refl w4.heap.size w4).alloc (Nat.le_refl _) _).mono hb4.out.size))
      go_wp2_with fail
      refine (k3.out _ _ hT.out).mono ?_
      rintro e w5 ⟨rfl, hb5⟩
      replace hb5 := hidden (hal.out.trans (hb5.mono hal.out.size))
      go_wp2_with fail
      refine (kA.out _).mono ?_
      rintro e w6 ⟨rfl, hb6⟩
      replace hb6 := hidden (hb5.out.trans (hb6.mono hb5.out.size))
      go_wp2
      go_ret
      exact ⟨rfl, hb6.out⟩
end Go.Proofs.YtpminhgkacgplaaDoor
