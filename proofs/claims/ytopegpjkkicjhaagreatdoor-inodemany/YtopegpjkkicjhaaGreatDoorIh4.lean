/- InodeMany. -/
import Derived.Test.YtopegpjkkicjhaaGreatDoorIgB
namespace Go.Proofs.YtopegpjkkicjhaaGreatDoor
open Go.RowKit Go.Extern.Stop Go.Stop Go.Extern Go.Maps Go.Sort Go.Shelf
set_option maxRecDepth 100000

theorem putD_all4 (zs : List Int) : putD [] zs 0 zs.length = zs := by
  apply List.ext_getElem?
  intro j
  unfold putD
  rw [List.getElem?_map]
  by_cases h : j < zs.length
  · rw [List.getElem?_range h]
    simp [h, List.getD]
  · rw [List.getElem?_eq_none (l := List.range zs.length) (by simp; omega), List.getElem?_eq_none (by omega)]
    rfl
/-- What stands ahead of round i: the inodes ahead of i are made, each with its text. -/
structure Man (zs : List Int) (i : Nat) (K : Nat → Nat) (D : Nat → List Int) : Prop where
  k1 : ∀ j, 1 ≤ j → j < i → K j ≠ 0
  k0 : ∀ j, i ≤ j → K j = 0
  d1 : ∀ j, 1 ≤ j → j < i → D j = textL j (lnN zs j)
  d0 : ∀ j, i ≤ j → D j = []
theorem Man.start (zs : List Int) : Man zs 1 (fun _ => 0) (fun _ => []) := ⟨fun j a b => by omega, fun _ _ => rfl, fun j a b => by omega, fun _ _ => rfl⟩
theorem Man.step {zs : List Int} {i kd : Nat} {K : Nat → Nat} {D : Nat → List Int} (h : Man zs i K D) (hk : kd ≠ 0) (D' : Nat → List Int) (hD : D' = upd D i (textL i (lnN zs i))) : Man zs (i + 1) (upd K i kd) D' := by
  subst hD
  refine ⟨fun j a b => ?_, fun j a => ?_, fun j a b => ?_, fun j a => ?_⟩
  · by_cases e : j = i
    · subst e; rw [upd_same]; exact hk
    · rw [upd_other _ _ e]; exact h.k1 j a (by omega)
  · rw [upd_other _ _ (by omega)]; exact h.k0 j (by omega)
  · by_cases e : j = i
    · subst e; rw [upd_same]
    · rw [upd_other _ _ e]; exact h.d1 j a (by omega)
  · rw [upd_other _ _ (by omega)]; exact h.d0 j (by omega)
set_option maxHeartbeats 8000000 in
theorem inodeMany_calls (kn : Int) (v : Value) (zs : List Int) (at_ : Int) (w : World) (hv : IntsIn w v zs) (hG : Ground w) (hGT0 : GT w) :
    Calls Tryz.prog 3 #[.int .i64 kn, v, .int .i64 at_] w fun e w' => e = .returned (.bool true) ∧ Below w.heap.size w w' := by
  obtain ⟨w0, hw0, hB0, cp⟩ : ∃ w0, w.alloc (.cells #[v] 22) = w0 ∧ Below w.heap.size w w0 ∧ w0.cell? ⟨w.heap.size, 0, none⟩ = some v := ⟨_, rfl, (Below.refl _ _).alloc (Nat.le_refl _) _, by simp⟩
  have hGT := hidden (fun (wx : World) (hx : Below w0.heap.size w0 wx) => GT.below (GT.below hGT0 hB0) hx)
  have kLn := hidden (fun (wx : World) (hx : Below w0.heap.size w0 wx) (i : Nat) (hi : i ≤ 6) => long_calls zs v w.heap.size i hi wx ((hv.below hB0).below hx) ((hx.cell (p := ⟨w.heap.size, 0, none⟩) (lt_of_cell cp)).trans cp))
  have hG0 := hG.below hB0
  have kM := hidden (made8_calls w0 hG0 60 (by omega) (by omega))
  have kA := hidden (fun (wx : World) (hx : Below w0.heap.size w0 wx) => awake8_calls wx (hG0.below hx))
  have kT := hidden (fun (n l : Nat) (hn : n ≤ 6) (hl : l ≤ 511) (wx : World) => text_calls n l (by omega) (by omega) wx)
  have kB := hidden (fun (s : Int) (wx : World) => refblocks_calls s wx)
  have hB0' := hidden hB0
  have hmf : ∀ (fn : Fn) (first cap : Array Value) (w : World), (Instr.makeFunc fn first cap).run Tryz.prog w = .ok (.func fn first cap) w := fun _ _ _ _ => rfl
  obtain ⟨va, vc, rfl, -⟩ := hv
  clear hG hGT0 hG0 cp hB0
  generalize zs.length = ZL at *
  go_enter Tryz.func3, Tryz.ntmps3
  go_wp2_with fail
  refine (kM.out).mono ?_
  rintro ev w1 ⟨jb, cb, mb, ab, tb, rfl, ok, far, hS⟩
  have h1 := hidden (s8_new hS)
  replace ok := hidden ok
  replace far := hidden far
  clear kM hS hw0
  go_wp2_with fail
  go_loopg [10, 12] 7 (fun gk tt q wr => ∃ (i : Nat) (K : Nat → Nat) (D : Nat → List Int) (f tot : Nat), 1 ≤ i ∧ i ≤ 7 ∧ gk = 8 - i ∧ q = .int .i64 (i : Int) ∧ tt = .int .i64 (tot : Int) ∧ f + tot = 60 ∧ tot ≤ 5 * i ∧ Hid (Man zs i K D ∧ S8 (te8 w0 jb cb mb ab tb 60) K D f 0 wr))
  case atStart => exact ⟨1, _, _, 60, 0, by omega, by omega, rfl, rfl, rfl, rfl, by omega, hidden ⟨Man.start zs, h1.out⟩⟩
  case round =>
    obtain ⟨i, K, D, f, tot, hi1, hi7, hgk, rfl, rfl, hft, htt, hI⟩ := hrel
    replace hgk := hidden hgk
    clear h1
    by_cases hlt : i ≤ 6
    · have hlt' : (i : Int) ≤ 6 := by omega
      have hln := lnN_le zs i hlt
      obtain ⟨kd, hkd, hk12⟩ : ∃ kd : Nat, wrap64 (1 + bits .and .i64 (kn / 2 ^ i) 1) = (kd : Int) ∧ (kd = 1 ∨ kd = 2) := by
        have hb : 0 ≤ bits .and .i64 (kn / 2 ^ i) 1 ∧ bits .and .i64 (kn / 2 ^ i) 1 ≤ 1 := and_low (kn / 2 ^ i) 1 (by omega)
        have e : wrap64 (1 + bits .and .i64 (kn / 2 ^ i) 1) = 1 + bits .and .i64 (kn / 2 ^ i) 1 := by
          have h0 := hb.1
          have h1 := hb.2
          unfold wrap64
          omega
        exact ⟨(1 + bits .and .i64 (kn / 2 ^ i) 1).toNat, by rw [e]; omega, by omega⟩
      have kK := hidden (S8.make ok.out hI.out.2 kd hk12 i hi1 hlt (hI.out.1.k0 i (Nat.le_refl _)) (fun j a b => hI.out.1.k1 j a b))
      go_wp2_with fail
      refine (kK.out).mono ?_
      rintro ev w2 ⟨rfl, h2, -⟩
      have hE2 := hidden h2.below
      have hm2 : mb < w2.heap.size := h2.lts.2.2.2.2.1
      have hMn := hidden (hI.out.1.step (kd := kd) (by omega) _ rfl)
      have hDi := hidden (hI.out.1.d0 i (Nat.le_refl _))
      have hK1 := hidden (show (upd K i kd) i ≠ 0 by rw [upd_same]; omega)
      replace h2 := hidden h2
      clear kK hI hkd
      generalize hL : lnN zs i = L at *
      replace hL := hidden hL
      go_wp2_with fail
      refine (kLn.out _ hE2.out i hlt).mono ?_
      rintro ev wq ⟨rfl, hwq⟩
      subst wq
      rw [hL.out]
      go_wp2_with fail
      refine (kT.out i L hlt hln _).mono ?_
      rintro ev w4 ⟨rfl, hB4⟩
      have hs4 := hB4.size
      obtain ⟨cap, w5, hcv, hbc, hB5⟩ := bytes_of mb w4 (textL i L) (textL_range _ _) (by rw [textL_len]; omega) (by omega)
      have h5 := (h2.out.more hB4).more hB5
      obtain ⟨bl, hbl, hbl4⟩ : ∃ bl : Nat, blk (L : Int) = (bl : Int) ∧ bl ≤ 4 := by
        have : 0 ≤ blk (L : Int) ∧ blk (L : Int) ≤ 4 := by unfold blk; split <;> (try split) <;> (try split) <;> omega
        exact ⟨(blk (L : Int)).toNat, by omega, by omega⟩
      have hW : Hid (Calls Tryz.prog 11 #[ptr tb, .int .i64 (i : Int), .int .i64 0, .slice (some ⟨w4.heap.size, 0, none⟩) L cap] w5 fun e w' => e = .returned .nilIface ∧ S8 (te8 w0 jb cb mb ab tb 60) (upd K i kd) (upd D i (textL i L)) (f - bl) 0 w') := hidden (by
        rw [textL_len] at hbc
        by_cases h0 : L = 0
        · subst h0
          refine (S8.write0 ok.out h5 (id := i) hi1 (by show i ≤ 6; omega) hK1.out (at_ := 0) (by omega) _ _).mono ?_
          rintro e w' ⟨rfl, hq⟩
          have hb0 : bl = 0 := by have : blk ((0 : Nat) : Int) = 0 := rfl; omega
          have hDD : upd D i (textL i 0) = D := by
            funext j
            by_cases e : j = i
            · subst e; rw [upd_same, hDi.out]; rfl
            · rw [upd_other _ _ e]
          rw [hDD, hb0]
          exact ⟨rfl, hq⟩
        · have hn : growb ((D i).length : Int) (L : Int) = (bl : Int) := by
            rw [hDi.out]
            unfold growb
            have : blk ((([] : List Int).length : Nat) : Int) = 0 := rfl
            rw [this, hbl]
            omega
          refine (S8.write ok.out h5 (id := i) hi1 (by show i ≤ 6; omega) hK1.out (at_ := 0) (n := bl) (S2 := L) hbc (by rw [textL_len]; omega) (by rw [textL_len]; omega) (by rw [hDi.out, textL_len]; simp) hn (by omega)).mono ?_
          rintro e w' ⟨rfl, hq, -⟩
          have hp := putD_all4 (textL i L)
          rw [textL_len] at hp
          rw [hDi.out, hp] at hq
          exact ⟨rfl, hq⟩)
      rw [textL_len] at hcv
      obtain ⟨TX, hTX⟩ : ∃ TX, TX = ofBytes (textL i L) := ⟨_, rfl⟩
      rw [← hTX] at hcv ⊢
      replace hTX := hidden hTX
      clear hbc hB5 hB4 h5 hDi hK1
      go_wp2_with fail
      refine (hW.out).mono ?_
      rintro ev w6 ⟨rfl, h6⟩
      have hE6 := hidden h6.below
      replace h6 := hidden h6
      clear hW h2 hcv
      go_wp2_with fail
      refine (kLn.out _ hE6.out i hlt).mono ?_
      rintro ev wq ⟨rfl, hwq⟩
      subst wq
      rw [hL.out]
      go_wp2_with fail
      refine (kB.out _ w6).mono ?_
      rintro ev wq ⟨rfl, hwq⟩
      subst wq
      rw [hbl]
      have htb : tot ≤ 100 := by omega
      go_wp2
      go_roundg (8 - (i + 1))
      case measure => rw [hgk.out]; omega
      case rel => exact ⟨i + 1, upd K i kd, upd D i (textL i L), f - bl, tot + bl, by omega, by omega, rfl, by go_num, by go_num, by omega, by omega, hidden ⟨hMn.out, h6.out⟩⟩
    · obtain rfl : i = 7 := by omega
      have hlt' : ¬ ((7 : Nat) : Int) ≤ 6 := by omega
      have kN := hidden (S8.make_none ok.out hI.out.2 1 (Or.inl rfl) (fun j a b => hI.out.1.k1 j a (by have : j ≤ 6 := b; omega)))
      have hMan := hidden hI.out.1
      have h1 := hidden hI.out.2
      clear hI hgk
      go_wp2_with fail
      refine (kN.out).mono ?_
      rintro ev w2 ⟨fb, rfl, hch, hB2⟩
      have h2 := hidden (h1.out.more hB2)
      have kU := hidden (law_num 16 w2 _ _ hch (hGT.out w2 h2.out.below))
      clear kN hch hB2 h1
      go_wp2_with fail
      refine (kU.out).mono ?_
      rintro ev w3 ⟨rfl, hB3⟩
      have h3 := hidden (h2.out.more hB3)
      clear kU hB3 h2
      have kF := hidden (S8.flush ok.out far.out h3.out (by omega))
      go_wp2_with fail
      refine (kF.out).mono ?_
      rintro ev w4 ⟨rfl, h4, -⟩
      have kFr := hidden (S8.mfree ok.out h4)
      replace h4 := hidden h4
      clear kF h3
      go_wp2_with fail
      refine (kFr.out).mono ?_
      rintro ev w5 ⟨rfl, hB5⟩
      have h5 := hidden (h4.out.more hB5)
      clear kFr hB5 h4
      have hft' : (f : Int) = 60 - (tot : Int) := by omega
      have hne : ((f : Int) != 60 - (tot : Int)) = false := by simp [hft']
      replace hft' := hidden hft'
      obtain ⟨q, hq, hq6⟩ : ∃ q : Nat, (bits .and .i64 at_ 255).tmod 6 = (q : Int) ∧ q < 6 := by
        have hal : 0 ≤ bits .and .i64 at_ 255 ∧ bits .and .i64 at_ 255 ≤ 255 := and_low at_ 255 (by omega)
        have e : (bits .and .i64 at_ 255).tmod 6 = bits .and .i64 at_ 255 % 6 := Int.tmod_eq_emod_of_nonneg hal.1
        exact ⟨((bits .and .i64 at_ 255) % 6).toNat, by rw [e]; omega, by omega⟩
      obtain ⟨n, hn⟩ : ∃ n : Nat, blk ((D (q + 1)).length : Int) = (n : Int) := ⟨(blk ((D (q + 1)).length : Int)).toNat, by have := blk_range ((D (q + 1)).length : Int); omega⟩
      have kFe := hidden (S8.free ok.out h5.out (id := q + 1) (by omega) (by show q + 1 ≤ 6; omega) (hMan.out.k1 _ (by omega) (by omega)) hn)
      rw [show ((q + 1 : Nat) : Int) = (q : Int) + 1 from rfl] at kFe
      clear hn
      go_wp2_with fail
      refine (kFe.out).mono ?_
      rintro ev w6 ⟨rfl, h6, -⟩
      have hK6 := hidden (show (upd K (q + 1) 0) (q + 1) = 0 from upd_same _ _ _)
      have kFe2 := hidden (S8.free_none ok.out h6 (id := q + 1) (by omega) (by show q + 1 ≤ 6; omega) hK6.out)
      rw [show ((q + 1 : Nat) : Int) = (q : Int) + 1 from rfl] at kFe2
      replace h6 := hidden h6
      clear kFe h5 hne
      go_wp2_with fail
      refine (kFe2.out).mono ?_
      rintro ev w7 ⟨fb2, rfl, hch, hB7⟩
      have h7 := hidden (h6.out.more hB7)
      have kU := hidden (law_num 11 w7 _ _ hch (hGT.out w7 h7.out.below))
      clear kFe2 hch hB7 h6
      go_wp2_with fail
      refine (kU.out).mono ?_
      rintro ev w8 ⟨rfl, hB8⟩
      have h8 := hidden (h7.out.more hB8)
      clear kU hB8 h7
      have kK := hidden (S8.make ok.out h8.out 2 (Or.inr rfl) (q + 1) (by omega) (by show q + 1 ≤ 6; omega) hK6.out (fun j a b => by rw [upd_other _ _ (by omega)]; exact hMan.out.k1 j a (by omega)))
      rw [show ((q + 1 : Nat) : Int) = (q : Int) + 1 from rfl] at kK
      go_wp2_with fail
      refine (kK.out).mono ?_
      rintro ev w9 ⟨rfl, h9, -⟩
      clear kK h8 hK6
      have hKa := hidden (fun (j : Nat) (a : 1 ≤ j) (b : j ≤ 6) => show (upd (upd K (q + 1) 0) (q + 1) 2) j ≠ 0 from by
        by_cases e : j = q + 1
        · subst e; rw [upd_same]; omega
        · rw [upd_other _ _ e, upd_other _ _ e]; exact hMan.out.k1 j a (by omega))
      have hDk := hidden (show (upd D (q + 1) []) (q + 1) = [] from upd_same _ _ _)
      have hDo := hidden (fun (j : Nat) (a : 1 ≤ j) (b : j ≤ 6) (e : j ≠ q + 1) => show (upd D (q + 1) []) j = textL j (lnN zs j) from by rw [upd_other _ _ e]; exact hMan.out.d1 j a (by omega))
      generalize upd (upd K (q + 1) 0) (q + 1) 2 = K2 at *
      generalize upd D (q + 1) [] = D2 at *
      have kZ := hidden (S8.size ok.out h9 (id := q + 1) (by omega) (by show q + 1 ≤ 6; omega) (hKa.out _ (by omega) (by omega)))
      rw [hDk.out, show (([] : List Int).length : Nat) = 0 from rfl, show ((q + 1 : Nat) : Int) = (q : Int) + 1 from rfl] at kZ
      replace h9 := hidden h9
      clear hMan
      go_wp2_with fail
      refine (kZ.out).mono ?_
      rintro ev w10 ⟨rfl, hB10⟩
      have h10 := hidden (h9.out.more hB10)
      clear kZ hB10 h9
      go_wp2_with fail
      go_loopg [24] 7 (fun gk q2 wr => ∃ i : Nat, 1 ≤ i ∧ i ≤ 7 ∧ gk = 8 - i ∧ q2 = .int .i64 (i : Int) ∧ Hid (S8 (te8 w0 jb cb mb ab tb 60) K2 D2 (f + n) (0 + 1000) wr))
      case atStart => exact ⟨1, by omega, by omega, rfl, rfl, h10⟩
      case round =>
        obtain ⟨i, hi1, hi7, hgk, rfl, hI⟩ := hrel
        replace hgk := hidden hgk
        clear h10
        by_cases hlt : i ≤ 6
        · have hlt' : (i : Int) ≤ 6 := by omega
          have hln := lnN_le zs i hlt
          have kR := S8.read ok.out hI.out (id := i) hi1 hlt (hKa.out i hi1 hlt) 0 1000 (by omega) (by omega)
          rw [List.drop_zero] at kR
          have hDi := hidden (show D2 i = if i = q + 1 then [] else textL i (lnN zs i) from by
            by_cases e : i = q + 1
            · rw [if_pos e, e]; exact hDk.out
            · rw [if_neg e]; exact hDo.out i hi1 hlt e)
          have hDl : (D2 i).length ≤ 1000 := by
            rw [hDi.out]
            split
            · simp
            · rw [textL_len]; omega
          rw [List.take_of_length_le hDl] at kR
          replace kR := hidden kR
          clear hDl
          go_wp2_with fail
          refine (kR.out).mono ?_
          rintro ev w12 ⟨v, rfl, hV, hB12⟩
          have h12 := hidden (hI.out.more hB12)
          have hE12 := hidden h12.out.below
          have hVC := hidden (hV.toC (m := mb) (by have := hI.out.lts.2.2.2.2.1; exact this))
          clear kR hV hB12 hI
          go_wp2_with fail
          refine (kLn.out _ hE12.out i hlt).mono ?_
          rintro ev wq ⟨rfl, hwq⟩
          subst wq
          go_wp2_with fail
          refine (kT.out i _ hlt hln _).mono ?_
          rintro ev w13 ⟨rfl, hB13⟩
          have h13 := hidden (h12.out.more hB13)
          have hcv := conv_bytes _ _ _ (hVC.out.keep (Apart.of_below (bs := [mb]) hB13)).at
          rw [hDi.out] at hcv
          clear hB13 h12 hVC hE12
          by_cases hk : i = q + 1
          · have hk' : (i : Int) = (q : Int) + 1 := by omega
            rw [if_pos hk, show ofBytes [] = ⟨#[]⟩ from rfl] at hcv
            obtain ⟨TX, hTX⟩ : ∃ TX, TX = ofBytes (textL i (lnN zs i)) := ⟨_, rfl⟩
            rw [← hTX]
            replace hTX := hidden hTX
            clear hk
            have hk2 := hidden hk'
            have hke : ((i : Int) == (q : Int) + 1) = true := by simp [hk']
            clear hk'
            go_wp2
            go_roundg (8 - (i + 1))
            case measure => rw [hgk.out]; omega
            case rel => exact ⟨i + 1, by omega, by omega, rfl, by go_num, h13⟩
          · have hk' : ¬ (i : Int) = (q : Int) + 1 := by omega
            rw [if_neg hk] at hcv
            obtain ⟨TX, hTX⟩ : ∃ TX, TX = ofBytes (textL i (lnN zs i)) := ⟨_, rfl⟩
            rw [← hTX] at hcv ⊢
            replace hTX := hidden hTX
            clear hk
            have hke : ((i : Int) == (q : Int) + 1) = false := by simp [hk']
            clear hk'
            go_wp2
            go_roundg (8 - (i + 1))
            case measure => rw [hgk.out]; omega
            case rel => exact ⟨i + 1, by omega, by omega, rfl, by go_num, h13⟩
        · obtain rfl : i = 7 := by omega
          have hlt' : ¬ ((7 : Nat) : Int) ≤ 6 := by omega
          have hE := hidden hI.out.below
          clear hI
          go_wp2_with fail
          refine (kA.out _ hE.out).mono ?_
          rintro ev w15 ⟨rfl, hB15⟩
          have hE15 := hidden (hB0'.out.trans ((hE.out.trans (hB15.mono hE.out.size)).mono hB0'.out.size))
          clear hB15
          go_wp2
          go_ret
          exact ⟨rfl, hE15.out⟩
end Go.Proofs.YtopegpjkkicjhaaGreatDoor
