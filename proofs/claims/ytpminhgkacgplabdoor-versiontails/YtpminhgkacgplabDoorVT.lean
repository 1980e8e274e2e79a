/- VersionTails answers true, whatever it is given, and changes nothing that was there. -/
import Derived.Test.YtpminhgkacgplabDoorVT0
namespace Go.Proofs.YtpminhgkacgplabDoor
open Go Go.RowKit
set_option maxRecDepth 100000

theorem cmpL_more (p : List Tok) (x : List Tok) : cmpL (p ++ x) p = cmpL x [] := by
  have := cmpL_pre p x []
  rwa [List.append_nil] at this
theorem tails_cmp (a S : List UInt8) (u : Nat) (hS : ∀ c ∈ S, clsB c = 1) :
    cmpV ((a ++ [46]) ++ S ++ Lib.decDigits u) (a ++ [46]) = 1 ∧ cmpV ((a ++ [46]) ++ S ++ [114, 99]) (a ++ [46]) = 1 ∧ cmpV ((a ++ [46]) ++ S ++ [126] ++ Lib.decDigits u) (a ++ [46]) = -1 ∧ cmpV ((a ++ [46]) ++ S) (a ++ [46]) = 0 ∧
    cmpV ((a ++ [46]) ++ S ++ Lib.decDigits u) ((a ++ [46]) ++ [114, 99]) = 1 ∧ cmpV ((a ++ [46]) ++ [126]) ((a ++ [46]) ++ S ++ [126, 126]) = 1 := by
  have hr : toksB [114, 99] = [(2, [114, 99])] := by decide
  have ht : toksB [126] = [(0, [126])] := by decide
  have htt : toksB [126, 126] = [(0, [126]), (0, [126])] := by decide
  have htk : toksB ([126] ++ Lib.decDigits u) = [(0, [126]), (3, strD u)] := by
    have h := toks_dec u
    show (rawT (126 :: Lib.decDigits u)).map stripT = _
    rw [raw_tilde 126 _ (by decide), List.map_cons]
    show (0, [126]) :: toksB (Lib.decDigits u) = _
    rw [h]
  have h0 : ∀ b, toksB ((a ++ [46]) ++ b) = toksB a ++ toksB b := fun b => by have := toks_head a [] b (by simp); simpa using this
  refine ⟨?_, ?_, ?_, ?_, ?_, ?_⟩
  · rw [cmpV, toks_head a S _ hS, toks_point, cmpL_more, toks_dec]; rfl
  · rw [cmpV, toks_head a S _ hS, toks_point, cmpL_more, hr]; rfl
  · rw [List.append_assoc _ [126], cmpV, toks_head a S _ hS, toks_point, cmpL_more, htk]; rfl
  · have := toks_head a S [] hS
    rw [List.append_nil] at this
    rw [cmpV, this, toks_point, cmpL_more]; rfl
  · rw [cmpV, toks_head a S _ hS, h0, cmpL_pre, toks_dec, hr, cmpL]
    have : holdB (3, strD u) (2, [114, 99]) = 1 := by rw [holdB, if_pos (by show (3 : Nat) ≠ 2; decide)]; rfl
    rw [this, if_neg (by decide)]
  · rw [cmpV, toks_head a S _ hS, h0, cmpL_pre, ht, htt]; decide
set_option maxHeartbeats 16000000 in
theorem versionTails_calls (a : List UInt8) (n : Int) (v : Value) (cs : List UInt8) (w : World) (hv : BytesIn w v cs) : Calls Tryd.prog 3 #[.string (mkB a), .int .i64 n, v] w fun e w' => e = .returned (.bool true) ∧ Below w.heap.size w w' := by
  have kA := hidden (fun w => awake_calls w)
  obtain ⟨aa, ca, rfl, hma, hca⟩ := hv
  obtain ⟨lc, hlc⟩ : ∃ n, cs.length = n := ⟨_, rfl⟩
  rw [hlc] at hma ⊢
  by_cases b1 : 200 < a.length
  · have s1 := size_big a 200 b1
    go_enter Tryd.func3, Tryd.ntmps3
    go_wp2_with fail
    refine (kA.out w).mono ?_
    rintro e w1 ⟨rfl, hB⟩
    go_wp2
    go_ret
    exact ⟨rfl, hB⟩
  have s1 := size_few a 200 b1
  by_cases b2 : 50 < (lc : Int)
  · go_enter Tryd.func3, Tryd.ntmps3
    go_wp2_with fail
    refine (kA.out w).mono ?_
    rintro e w1 ⟨rfl, hB⟩
    go_wp2
    go_ret
    exact ⟨rfl, hB⟩
  obtain ⟨u, hu, hub⟩ := mask_lit n 65535 (by decide) (by decide)
  have kU := hidden (fun w => num_nat u (by omega) w)
  have lu := decDigits_len u (by omega)
  have kL := hidden (fun c w => letter_calls c w)
  have hcA := hidden (fun (i : Nat) (h : i < lc) => (show ∃ b off c, aa = some ⟨b, off, none⟩ ∧ b < w.heap.size ∧ cs[i]? = some c ∧ w.cell? ⟨b, off + i, none⟩ = some (.int .u8 (c.toNat : Int)) by
    obtain ⟨b, off, h1, h2, h3⟩ := hca (by rintro rfl; simp at hlc; omega)
    obtain ⟨c, hc⟩ : ∃ c, cs[i]? = some c := ⟨_, List.getElem?_eq_getElem (by omega)⟩
    exact ⟨b, off, c, h1, h2, hc, h3 i c hc⟩))
  have e1 : mkB a ++ ⟨#[46]⟩ = mkB (a ++ [46]) := mk_app a [46]
  have z0 := mk_size a
  replace b1 := hidden b1
  replace hlc := hidden hlc
  clear hca
  go_enter Tryd.func3, Tryd.ntmps3
  go_wp2_with fail
  go_loopg [7, 8] lc (fun g sv si wr => ∃ i : Nat, i ≤ lc ∧ g = lc - i ∧ si = .int .i64 (i : Int) ∧ sv = .string (mkB ((cs.take i).filter plainC)) ∧ Hid (Below w.heap.size w wr))
  case atStart => exact ⟨0, Nat.zero_le _, rfl, rfl, rfl, hidden (Below.refl _ _)⟩
  case round =>
    obtain ⟨i, hi, hg, rfl, rfl, hB⟩ := hrel
    replace hg := hidden hg
    by_cases hlt : i < lc
    · have hlt' : (i : Int) < (lc : Int) := by omega
      obtain ⟨b, off, c, rfl, hb, hci, hcell⟩ := hcA.out i hlt
      have q1 := (hB.out.cell (p := ⟨b, off + i, none⟩) hb).trans hcell
      have htk : cs.take (i + 1) = cs.take i ++ [c] := by rw [List.take_add_one, hci]; rfl
      have hf := hidden (show (cs.take (i + 1)).filter plainC = (cs.take i).filter plainC ++ (if plainC c = true then [c] else []) by
        rw [htk, List.filter_append, List.filter_cons]; rfl)
      have hSl : ((cs.take i).filter plainC).length ≤ 50 := by
        have h1 := List.length_filter_le plainC (cs.take i)
        rw [List.length_take] at h1; omega
      generalize (cs.take i).filter plainC = S at *
      have zS := mk_size S
      have zc : (mkB [c]).size = 1 := by rw [mk_size]; rfl
      have eS : mkB S ++ mkB [c] = mkB (S ++ [c]) := mk_app S [c]
      have kD := hidden (kL.out c)
      have hcv := conv_one wr c
      have hpl := hidden (show plainC c = (!letB (c.toNat : Int) && decide (¬ (c.toNat : Int) = 126)) from rfl)
      have hB2 := hidden (hB.out.trans (((Below.refl wr.heap.size wr).alloc (Nat.le_refl _) (Obj.cells #[Value.int .u8 (c.toNat : Int)] 5)).mono hB.out.size))
      generalize letB (c.toNat : Int) = lt at *
      clear htk hcell
      cases lt
      · by_cases h126 : (c.toNat : Int) = 126
        · replace h126 := hidden h126
          go_wp2_with fail
          refine (kD.out _).mono ?_
          rintro e w1 ⟨rfl, hw1⟩
          subst w1
          replace h126 := h126.out
          go_wp2
          go_roundg (lc - (i + 1))
          case measure => rw [hg.out]; omega
          case rel => exact ⟨i + 1, hlt, rfl, by go_num, by rw [hf.out, hpl.out]; simp [h126], hB⟩
        · go_wp2_with fail
          refine (kD.out _).mono ?_
          rintro e w1 ⟨rfl, hw1⟩
          subst w1
          go_wp2
          go_roundg (lc - (i + 1))
          case measure => rw [hg.out]; omega
          case rel => exact ⟨i + 1, hlt, rfl, by go_num, by rw [hf.out, hpl.out]; simp [h126], hB2⟩
      · go_wp2_with fail
        refine (kD.out _).mono ?_
        rintro e w1 ⟨rfl, hw1⟩
        subst w1
        go_wp2
        go_roundg (lc - (i + 1))
        case measure => rw [hg.out]; omega
        case rel => exact ⟨i + 1, hlt, rfl, by go_num, by rw [hf.out, hpl.out]; simp, hB⟩
    · obtain rfl : lc = i := by omega
      rw [show cs.take lc = cs from List.take_of_length_le (by rw [hlc.out]; exact Nat.le_refl _)]
      have hS1 : ∀ c ∈ cs.filter plainC, clsB c = 1 := fun c hc => plain_cls c (List.mem_filter.1 hc).2
      have hSl : (cs.filter plainC).length ≤ 50 := by
        have h1 := List.length_filter_le plainC cs
        have := hlc.out; omega
      generalize cs.filter plainC = S at *
      obtain ⟨c1, c2, c3, c4, c5, c6⟩ := tails_cmp a S u hS1
      have hal := b1.out
      have k1 := hidden (fun w => compare_calls ((a ++ [46]) ++ S ++ Lib.decDigits u) (a ++ [46]) w (by simp; omega) (by simp; omega))
      have k2 := hidden (fun w => compare_calls ((a ++ [46]) ++ S ++ [114, 99]) (a ++ [46]) w (by simp; omega) (by simp; omega))
      have k3 := hidden (fun w => compare_calls ((a ++ [46]) ++ S ++ [126] ++ Lib.decDigits u) (a ++ [46]) w (by simp; omega) (by simp; omega))
      have k4 := hidden (fun w => compare_calls ((a ++ [46]) ++ S) (a ++ [46]) w (by simp; omega) (by simp; omega))
      have k5 := hidden (fun w => compare_calls ((a ++ [46]) ++ S ++ Lib.decDigits u) ((a ++ [46]) ++ [114, 99]) w (by simp; omega) (by simp; omega))
      have k6 := hidden (fun w => compare_calls ((a ++ [46]) ++ [126]) ((a ++ [46]) ++ S ++ [126, 126]) w (by simp; omega) (by simp; omega))
      rw [c1] at k1
      rw [c2] at k2
      rw [c3] at k3
      rw [c4] at k4
      rw [c5] at k5
      rw [c6] at k6
      have e2 : mkB (a ++ [46]) ++ mkB S = mkB ((a ++ [46]) ++ S) := mk_app _ _
      have e3 : mkB ((a ++ [46]) ++ S) ++ mkB (Lib.decDigits u) = mkB ((a ++ [46]) ++ S ++ Lib.decDigits u) := mk_app _ _
      have e4 : mkB ((a ++ [46]) ++ S) ++ ⟨#[114, 99]⟩ = mkB ((a ++ [46]) ++ S ++ [114, 99]) := mk_app _ [114, 99]
      have e5 : mkB ((a ++ [46]) ++ S) ++ ⟨#[126]⟩ = mkB ((a ++ [46]) ++ S ++ [126]) := mk_app _ [126]
      have e6 : mkB ((a ++ [46]) ++ S ++ [126]) ++ mkB (Lib.decDigits u) = mkB ((a ++ [46]) ++ S ++ [126] ++ Lib.decDigits u) := mk_app _ _
      have e7 : mkB (a ++ [46]) ++ ⟨#[114, 99]⟩ = mkB ((a ++ [46]) ++ [114, 99]) := mk_app _ [114, 99]
      have e8 : mkB (a ++ [46]) ++ ⟨#[126]⟩ = mkB ((a ++ [46]) ++ [126]) := mk_app _ [126]
      have e9 : mkB ((a ++ [46]) ++ S) ++ ⟨#[126, 126]⟩ = mkB ((a ++ [46]) ++ S ++ [126, 126]) := mk_app _ [126, 126]
      have y1 : (mkB (a ++ [46])).size = a.length + 1 := by rw [mk_size]; simp
      have y2 : (mkB S).size = S.length := mk_size S
      have y3 : (mkB ((a ++ [46]) ++ S)).size = a.length + 1 + S.length := by rw [mk_size]; simp; omega
      have y4 : (mkB (Lib.decDigits u)).size = (Lib.decDigits u).length := mk_size _
      have y5 : (mkB ((a ++ [46]) ++ S ++ [126])).size = a.length + 1 + S.length + 1 := by rw [mk_size]; simp; omega
      clear c1 c2 c3 c4 c5 c6 hS1
      generalize (a ++ [46]) ++ S ++ [126] ++ Lib.decDigits u = ASTK at *
      generalize (a ++ [46]) ++ S ++ Lib.decDigits u = ASK at *
      generalize (a ++ [46]) ++ S ++ [114, 99] = ASR at *
      generalize (a ++ [46]) ++ S ++ [126, 126] = ASTT at *
      generalize (a ++ [46]) ++ S ++ [126] = AST at *
      generalize (a ++ [46]) ++ S = AS at *
      generalize (a ++ [46]) ++ [114, 99] = AR at *
      generalize (a ++ [46]) ++ [126] = AT at *
      generalize a ++ [46] = A at *
      generalize Lib.decDigits u = K at *
      generalize S.length = lS at *
      generalize K.length = lK at *
      generalize a.length = la at *
      clear hlc hcA
      go_wp2_with fail
      refine (kU.out _).mono ?_
      rintro e w1 ⟨rfl, hw1⟩
      subst w1
      go_wp2_with fail
      refine (k1.out _).mono ?_
      rintro e w2 ⟨rfl, hb2⟩
      replace hb2 := hidden (hB.out.trans (hb2.mono hB.out.size))
      go_wp2_with fail
      refine (k2.out _).mono ?_
      rintro e w3 ⟨rfl, hb3⟩
      replace hb3 := hidden (hb2.out.trans (hb3.mono hb2.out.size))
      go_wp2_with fail
      refine (k3.out _).mono ?_
      rintro e w4 ⟨rfl, hb4⟩
      replace hb4 := hidden (hb3.out.trans (hb4.mono hb3.out.size))
      go_wp2_with fail
      refine (k4.out _).mono ?_
      rintro e w5 ⟨rfl, hb5⟩
      replace hb5 := hidden (hb4.out.trans (hb5.mono hb4.out.size))
      go_wp2_with fail
      refine (k5.out _).mono ?_
      rintro e w6 ⟨rfl, hb6⟩
      replace hb6 := hidden (hb5.out.trans (hb6.mono hb5.out.size))
      go_wp2_with fail
      refine (k6.out _).mono ?_
      rintro e w7 ⟨rfl, hb7⟩
      replace hb7 := hidden (hb6.out.trans (hb7.mono hb6.out.size))
      go_wp2_with fail
      refine (kA.out _).mono ?_
      rintro e w8 ⟨rfl, hb8⟩
      replace hb8 := hidden (hb7.out.trans (hb8.mono hb7.out.size))
      go_wp2
      go_ret
      exact ⟨rfl, hb8.out⟩
end Go.Proofs.YtpminhgkacgplabDoor
