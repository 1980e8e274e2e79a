/- ConfFaults answers true, whatever it is given, and changes nothing that was there. -/
import Derived.Test.YtfoamhkgdlebdaaGreatDoorZA
import Derived.Test.YtfoamhkgdlebdaaGreatDoorZN
import Derived.Deep.Cut
import Derived.Deep.CutBlock
import Derived.Deep.CutRange
import Derived.Laws.Shifts
namespace Go.Proofs.YtfoamhkgdlebdaaGreatDoor
open Go.RowKit Go.Extern.Stop Go.Stop Go.Extern
set_option maxRecDepth 100000

theorem mk_app (a b : List UInt8) : mkB a ++ mkB b = mkB (a ++ b) := by
  apply ByteArray.ext
  simp [mkB]
theorem shr_eight (g : Int) : Op.shift .shr .i64 g .u64 8 = pure (.int .i64 (g / 256)) := shift_shr_any _ _ _ _ (by decide)
attribute [local go_sem ↓] shr_eight
/-- A new row of texts. -/
theorem KeptT.new (w : World) (D : List (List UInt8)) (hD : D.length ≤ 100) : KeptT w.heap.size (w.alloc (.cells (D.map encT).toArray 9)) (.slice (some ⟨w.heap.size, 0, none⟩) D.length D.length) D :=
  ⟨by simp, Or.inr ⟨_, D.length, _, rfl, Nat.le_refl _, one_new _ _, Nat.le_refl _, by unfold maxLen; omega, by simp, by simp [List.take_of_length_le]⟩⟩
theorem and_k (z : Int) (k : Nat) (hk : k < 4611686018427387904) : ∃ N : Nat, bits .and .i64 z (k : Int) = (N : Int) ∧ N ≤ k := by
  have h := and_low z k hk
  exact ⟨(bits .and .i64 z (k : Int)).toNat, by omega, by omega⟩
theorem l3_cells : (#[.string ⟨#[118, 101, 114, 115, 105, 111, 110, 32, 49]⟩, .string (⟨#[107, 101, 114, 110, 101, 108, 32, 107, 32]⟩ ++ mkB zr), .string ⟨#[111, 112, 116, 105, 111, 110, 115, 32, 113, 117, 105, 101, 116]⟩] : Array Value) = (l3.map encT).toArray := by
  rw [show (⟨#[107, 101, 114, 110, 101, 108, 32, 107, 32]⟩ : ByteArray) = mkB [107, 101, 114, 110, 101, 108, 32, 107, 32] from rfl, mk_app]
  rfl
theorem bad_cells : (#[.string ⟨#[118, 101, 114, 115, 105, 111, 110]⟩, .string ⟨#[110, 111, 110, 115, 101, 110, 115, 101, 32, 49]⟩, .string ⟨#[101, 120, 116, 114, 97, 32, 97, 32, 49, 50]⟩, .string (⟨#[101, 120, 116, 114, 97, 32, 97, 47, 98, 32]⟩ ++ mkB zr), .string ⟨#[111, 112, 116, 105, 111, 110, 115, 32, 32, 120]⟩, .string ⟨#[111, 112, 116, 105, 111, 110, 115, 32]⟩, .string ⟨#[107, 101, 114, 110, 101, 108, 32, 107]⟩, .string ⟨#[118, 101, 114, 115, 105, 111, 110, 32, 97, 32, 98]⟩, .string ⟨#[32, 118, 101, 114, 115, 105, 111, 110, 32, 49]⟩, .string (⟨#[101, 120, 116, 114, 97, 32, 32, 97, 32]⟩ ++ mkB zr)] : Array Value) = (badL.map encT).toArray := by
  rw [show (⟨#[101, 120, 116, 114, 97, 32, 97, 47, 98, 32]⟩ : ByteArray) = mkB [101, 120, 116, 114, 97, 32, 97, 47, 98, 32] from rfl, show (⟨#[101, 120, 116, 114, 97, 32, 32, 97, 32]⟩ : ByteArray) = mkB [101, 120, 116, 114, 97, 32, 32, 97, 32] from rfl, mk_app, mk_app]
  rfl
theorem two_cat (t b x : List UInt8) : mkB t ++ mkB b ++ ⟨#[10]⟩ ++ mkB x ++ ⟨#[10]⟩ = mkB (t ++ b ++ [10] ++ x ++ [10]) := by
  show mkB t ++ mkB b ++ mkB [10] ++ mkB x ++ mkB [10] = _
  rw [mk_app, mk_app, mk_app, mk_app]
theorem x_cat (d : List UInt8) : (⟨#[101, 120, 116, 114, 97, 32, 120]⟩ : ByteArray) ++ mkB d ++ ⟨#[32]⟩ ++ mkB zr = mkB (lnB kwE (120 :: d, zr)) := by
  show mkB [101, 120, 116, 114, 97, 32, 120] ++ mkB d ++ mkB [32] ++ mkB zr = _
  rw [mk_app, mk_app, mk_app]
  congr 1
  simp [lnB, kwE]
theorem linesF_succ (k : Nat) : linesF (k + 1) = linesF k ++ [lnB kwE (120 :: Lib.decDigits k, zr)] := by
  simp [linesF, List.range_succ, xB]
theorem dd_len (u : Nat) (h : u < 100) : (Lib.decDigits u).length ≤ 2 := by
  by_cases h1 : u < 10
  · rw [Lib.decDigits_one h1]; simp
  · rw [Lib.decDigits_two h1 h]; simp
theorem nl_cat (t x : List UInt8) : mkB t ++ mkB x ++ ⟨#[10]⟩ = mkB (t ++ x ++ [10]) := by
  show mkB t ++ mkB x ++ mkB [10] = _
  rw [mk_app, mk_app]
theorem flat_snoc (L : List (List UInt8)) (x : List UInt8) : flatL (L ++ [x]) = flatL L ++ x ++ [10] := by rw [flat_app, flat_one, List.append_assoc]

set_option maxHeartbeats 16000000 in
theorem confFaults_calls (n at_ kd : Int) (w : World) (hg : GT w) (hG : Ground w) :
    Calls Tryz.prog 3 #[.int .i64 n, .int .i64 at_, .int .i64 kd] w fun e w' => e = .returned (.bool true) ∧ Below w.heap.size w w' := by
  obtain ⟨N, hN, hN7⟩ : ∃ N : Nat, bits .and .i64 n 7 = (N : Int) ∧ N ≤ 7 := and_k n 7 (by decide)
  obtain ⟨K, hK, hKb⟩ : ∃ K : Nat, bits .and .i64 kd 255 = (K : Int) ∧ K ≤ 255 := and_k kd 255 (by decide)
  obtain ⟨J, hJ, hJb⟩ : ∃ J : Nat, bits .and .i64 (kd / 256) 255 = (J : Int) ∧ J ≤ 255 := and_k (kd / 256) 255 (by decide)
  obtain ⟨C, hC, hCb⟩ : ∃ C : Nat, bits .and .i64 at_ 255 = (C : Int) ∧ C ≤ 255 := and_k at_ 255 (by decide)
  have kZ := hidden (fun wx => zero_calls wx)
  have kNum := hidden (fun (u : Nat) (hu : u ≤ 1000) (wx : World) => num_nat u (by omega) wx)
  have kA := hidden (fun (wx : World) (hx : Below w.heap.size w wx) => awake_calls wx (hg.below hx) (hG.below hx))
  have kB := hidden (fun (s : List UInt8) (k : Nat) (hs : s.length ≤ 2000) (hr : readL (linesB s) 0 e0 = .inl k) (wx : World) (hx : Below w.heap.size w wx) => (parse_bad s k wx hs hr (hg.below hx) (hG.below hx)))
  have kG := hidden (fun (s : List UInt8) (y : En) (hs : s.length ≤ 2000) (hr : readL (linesB s) 0 e0 = .inr y) (wx : World) => parse_good s y wx hs hr)
  have kI := hidden (fun (k : Nat) (wx : World) (b : Nat) (hx : Below w.heap.size w wx) (hE : PErr wx b (itoaB k) (lnE k)) => itoa_nat k ▸ law_isw k wx sConf (itoaB k) b hE.lt hE.c0 hE.c1 hE.c2 (hg.below hx))
  rw [enV0] at kB
  have hz16 : (mkB zr).size = 16 := rfl
  clear hg hG
  go_enter Tryz.func3, Tryz.ntmps3
  go_wp2_with fail
  refine (kZ.out _).mono ?_
  rintro e w0 ⟨rfl, hw0⟩
  subst w0
  go_upto_region 3 with fail
  rw [l3_cells]
  obtain ⟨w1, hw1, hK1, hB1⟩ : ∃ w1, w.alloc (.cells (l3.map encT).toArray 9) = w1 ∧ KeptT w.heap.size w1 (.slice (some ⟨w.heap.size, 0, none⟩) 3 3) (linesF 0) ∧ Below w.heap.size w w1 :=
    ⟨_, rfl, KeptT.new w l3 (by decide), (Below.refl _ _).alloc (Nat.le_refl _) _⟩
  rw [hw1]
  clear hw1
  replace hK1 := hidden hK1
  replace hB1 := hidden hB1
  go_wp2_with fail
  go_loopg [7, 8] N (fun g sv si wr => ∃ (k : Nat) (a : Option Addr) (c : Nat), k ≤ N ∧ g = N - k ∧ si = .int .i64 (k : Int) ∧ sv = .slice a (k + 3) c ∧ Hid (KeptT w.heap.size wr (.slice a (k + 3) c) (linesF k) ∧ Below w.heap.size w wr))
  case atStart => exact ⟨0, _, 3, Nat.zero_le _, rfl, rfl, rfl, hidden ⟨hK1.out, hB1.out⟩⟩
  case round =>
    clear hK1 hB1
    obtain ⟨k, a, c, hk, hg, rfl, rfl, hV⟩ := hrel
    replace hg := hidden hg
    by_cases hlt : k < N
    · have hltI : (k : Int) < (N : Int) := by omega
      have kN := hidden (kNum.out k (by omega) wr)
      have hd := mk_size (Lib.decDigits k)
      have hd2 := dd_len k (by omega)
      have hxc := x_cat (Lib.decDigits k)
      obtain ⟨wa, hwa⟩ : ∃ wa, wr.alloc (.cells #[.string (⟨#[101, 120, 116, 114, 97, 32, 120]⟩ ++ mkB (Lib.decDigits k) ++ ⟨#[32]⟩ ++ mkB zr)] 9) = wa := ⟨_, rfl⟩
      have hba : Below wr.heap.size wr wa := by rw [← hwa]; exact (Below.refl _ _).alloc (Nat.le_refl _) _
      have z0 : wa.cell? ⟨wr.heap.size, 0, none⟩ = some (.string (mkB (lnB kwE (120 :: Lib.decDigits k, zr)))) := by rw [← hxc, ← hwa]; simp
      obtain ⟨v5, w5, hrun, hk5, hb5⟩ := keptT_append (hV.out.1.below hba) ⟨wr.heap.size, 0, none⟩ 1 _ z0 (by rw [linesF_len]; omega) (Nat.le_trans hV.out.2.size hba.size) 23
      rw [← linesF_succ] at hk5
      rw [← hwa] at hrun
      obtain ⟨a5, c5, hv5, -, -⟩ := hk5.at
      rw [linesF_len, show k + 1 + 3 = (k + 1) + 3 by omega] at hv5
      subst hv5
      have hfin := hidden (show KeptT w.heap.size w5 (.slice a5 ((k + 1) + 3) c5) (linesF (k + 1)) ∧ Below w.heap.size w w5 from ⟨hk5, (hV.out.2.trans (hba.mono hV.out.2.size)).trans hb5⟩)
      replace hrun := hidden hrun
      clear hk5 hb5 z0 hba hwa hxc hV
      generalize Lib.decDigits k = d at *
      have hd3 : (mkB d).size ≤ 2 := by omega
      clear hd hd2
      go_wp2_with fail
      refine kN.out.mono ?_
      rintro e w6 ⟨rfl, hw6⟩
      subst w6
      go_wp2_with fail
      refine (kZ.out _).mono ?_
      rintro e w6 ⟨rfl, hw6⟩
      subst w6
      go_wp2_with (at_builtin; refine wpList_append_eq _ _ 23 rfl _ _ (.slice a5 ((k + 1) + 3) c5) w5 rfl rfl hrun.out rfl ?_)
      go_roundg (N - (k + 1))
      case measure => rw [hg.out]; omega
      case rel => exact ⟨k + 1, a5, c5, hlt, rfl, by go_num, rfl, hfin⟩
    · obtain rfl : k = N := by omega
      obtain ⟨M, hM⟩ : ∃ M, k + 3 = M := ⟨_, rfl⟩
      have hLM : (linesF k).length = M := by rw [linesF_len]; exact hM
      obtain ⟨a', cap', hva, hcap, hcl⟩ := hV.out.1.at
      have hne : linesF k ≠ [] := by intro e; rw [e] at hLM; simp at hLM; omega
      obtain ⟨b7, o7, rfl, hb7, hx7⟩ := hcl hne
      obtain ⟨rfl, -, -⟩ := Value.slice.inj hva
      have hBr := hidden hV.out.2
      have hcell := hidden (fun (wx : World) (h : Below wr.heap.size wr wx) (i : Nat) (x : List UInt8) (hx : (linesF k)[i]? = some x) => (h.cell (p := ⟨b7, o7 + i, none⟩) hb7).trans (hx7 i x hx))
      have hup := hidden (fun (wx : World) (h : Below wr.heap.size wr wx) => hBr.out.trans (h.mono hBr.out.size))
      rw [hM]
      clear hV hva hcap hcl hne hx7 hlt hg
      obtain ⟨Q, hQ⟩ : ∃ Q, K % 10 = Q := ⟨_, rfl⟩
      have hQ10 : Q < 10 := by omega
      have hidx : (K : Int).tmod 10 = (Q : Int) := by rw [Int.tmod_eq_emod_of_nonneg (by omega)]; omega
      have hQI : (Q : Int) < 10 := by omega
      obtain ⟨bb, hbb⟩ : ∃ bb, badL[Q]? = some bb := ⟨_, List.getElem?_eq_getElem (by show Q < 10; exact hQ10)⟩
      have hbad := hidden (List.mem_of_getElem? hbb)
      obtain ⟨A, hA⟩ : ∃ A, C % (M + 1) = A := ⟨_, rfl⟩
      have hAM : A ≤ M := by have := Nat.mod_lt C (show 0 < M + 1 by omega); omega
      have hidA : (C : Int).tmod ((M : Int) + 1) = (A : Int) := by rw [Int.tmod_eq_emod_of_nonneg (by omega)]; rw [← hA]; simp
      have hM0 : ¬ (M : Int) + 1 = 0 := by omega
      have hM11 : (M : Int) ≤ 11 := by omega
      replace hLM := hidden hLM
      have hk8 := hidden (show k ≤ 8 by omega)
      have hAM' := hidden hAM
      clear hQ hA hM hAM
      go_wp2_with fail
      refine (kZ.out _).mono ?_
      rintro e w6 ⟨rfl, hw6⟩
      subst w6
      go_wp2_with fail
      refine (kZ.out _).mono ?_
      rintro e w6 ⟨rfl, hw6⟩
      subst w6
      go_upto_region 8 with fail
      rw [bad_cells]
      obtain ⟨w2, hw2, hK2, hB2⟩ : ∃ w2, wr.alloc (.cells (badL.map encT).toArray 9) = w2 ∧ KeptT wr.heap.size w2 (.slice (some ⟨wr.heap.size, 0, none⟩) 10 10) badL ∧ Below wr.heap.size wr w2 :=
        ⟨_, rfl, KeptT.new wr badL (by decide), (Below.refl _ _).alloc (Nat.le_refl _) _⟩
      rw [hw2]
      have cQ : w2.cell? ⟨wr.heap.size, Q, none⟩ = some (.string (mkB bb)) := by
        have := hK2.row.cellAt Q (by show Q < 10 * 1; omega)
        rw [this, List.getElem?_map, hbb]; rfl
      clear hw2 hK2 hbb
      go_upto_region 10 with fail
      clear cQ hidx hQI hidA hM0
      have hS0 := hidden (show (⟨#[]⟩ : ByteArray) = mkB (flatL (insL (linesF k) A bb 0)) by rw [insL, if_pos (Nat.zero_le _)]; rfl)
      have hb40 := hidden (bad_each bb hbad.out)
      have hl40 := hidden (fun i => ins_each (L := linesF k) (at_ := A) (b := bb) (fun l hl => (linesF_each hk8.out l hl).2) hb40.out.2 i)
      replace hB2 := hidden hB2
      go_wp2_with fail
      go_loopg [11, 12] (M + 1) (fun g ss si wx => ∃ i : Nat, i ≤ M + 1 ∧ g = M + 1 - i ∧ si = .int .i64 (i : Int) ∧ ss = .string (mkB (flatL (insL (linesF k) A bb i))) ∧ wx = w2)
      case atStart => exact ⟨0, Nat.zero_le _, rfl, rfl, congrArg Value.string hS0.out, rfl⟩
      case round =>
        obtain ⟨i, hi, hg2, rfl, rfl, hwx⟩ := hrel
        replace hwx := hwx.symm
        subst hwx
        replace hg2 := hidden hg2
        clear hS0
        by_cases hle : i ≤ M
        · have hleI : (i : Int) ≤ (M : Int) := by omega
          have hts : (mkB (flatL (insL (linesF k) A bb i))).size ≤ 600 := by
            rw [mk_size]
            have h1 := flat_len _ (hl40.out i)
            have h2 := ins_len (linesF k) A bb i
            have := hLM.out
            omega
          have hbs : (mkB bb).size ≤ 40 := by rw [mk_size]; exact hb40.out.2
          by_cases hiA : i = A
          · subst hiA
            by_cases hiM : i < M
            · have hiMI : (i : Int) < (M : Int) := by omega
              obtain ⟨x, hx⟩ : ∃ x, (linesF k)[i]? = some x := ⟨_, List.getElem?_eq_getElem (by rw [hLM.out]; exact hiM)⟩
              have hxs : (mkB x).size ≤ 40 := by rw [mk_size]; exact (linesF_each hk8.out x (List.mem_of_getElem? hx)).2
              have c7 := hcell.out w2 hB2.out i x hx
              have hR := hidden (show mkB (flatL (insL (linesF k) i bb i)) ++ mkB bb ++ ⟨#[10]⟩ ++ mkB x ++ ⟨#[10]⟩ = mkB (flatL (insL (linesF k) i bb (i + 1))) by
                rw [two_cat, ins_at hx, flat_snoc, flat_snoc])
              clear hx hl40 hb40 hle hiM
              generalize mkB (flatL (insL (linesF k) i bb i)) = T0 at *
              generalize mkB bb = Bb at *
              generalize mkB x = X0 at *
              go_wp2
              go_roundg (M + 1 - (i + 1))
              case measure => rw [hg2.out]; omega
              case rel => exact ⟨i + 1, by omega, rfl, by go_num, congrArg Value.string hR.out, rfl⟩
            · have hiMI : ¬ (i : Int) < (M : Int) := by omega
              have hR := hidden (show mkB (flatL (insL (linesF k) i bb i)) ++ mkB bb ++ ⟨#[10]⟩ = mkB (flatL (insL (linesF k) i bb (i + 1))) by
                rw [nl_cat, ins_at_end (by rw [hLM.out]; omega), flat_snoc])
              clear hl40 hb40 hle hiM
              generalize mkB (flatL (insL (linesF k) i bb i)) = T0 at *
              generalize mkB bb = Bb at *
              go_wp2
              go_roundg (M + 1 - (i + 1))
              case measure => rw [hg2.out]; omega
              case rel => exact ⟨i + 1, by omega, rfl, by go_num, congrArg Value.string hR.out, rfl⟩
          · have hiAI : ¬ (i : Int) = (A : Int) := by omega
            by_cases hiM : i < M
            · have hiMI : (i : Int) < (M : Int) := by omega
              obtain ⟨x, hx⟩ : ∃ x, (linesF k)[i]? = some x := ⟨_, List.getElem?_eq_getElem (by rw [hLM.out]; exact hiM)⟩
              have hxs : (mkB x).size ≤ 40 := by rw [mk_size]; exact (linesF_each hk8.out x (List.mem_of_getElem? hx)).2
              have c7 := hcell.out w2 hB2.out i x hx
              have hR := hidden (show mkB (flatL (insL (linesF k) A bb i)) ++ mkB x ++ ⟨#[10]⟩ = mkB (flatL (insL (linesF k) A bb (i + 1))) by
                rw [nl_cat, ins_line hx hiA, flat_snoc])
              clear hx hiA hl40 hb40 hle hiM
              generalize mkB (flatL (insL (linesF k) A bb i)) = T0 at *
              generalize mkB x = X0 at *
              go_wp2
              go_roundg (M + 1 - (i + 1))
              case measure => rw [hg2.out]; omega
              case rel => exact ⟨i + 1, by omega, rfl, by go_num, congrArg Value.string hR.out, rfl⟩
            · have hiMI : ¬ (i : Int) < (M : Int) := by omega
              have hR := hidden (show mkB (flatL (insL (linesF k) A bb i)) = mkB (flatL (insL (linesF k) A bb (i + 1))) by
                rw [ins_none (by rw [hLM.out]; omega) hiA (by rw [hLM.out]; exact hAM'.out)])
              clear hiA hl40 hb40 hle hiM
              generalize mkB (flatL (insL (linesF k) A bb i)) = T0 at *
              go_wp2
              go_roundg (M + 1 - (i + 1))
              case measure => rw [hg2.out]; omega
              case rel => exact ⟨i + 1, by omega, rfl, by go_num, congrArg Value.string hR.out, rfl⟩
        · have hiM : Hid (i = M + 1) := hidden (by omega)
          have hnle : ¬ (i : Int) ≤ (M : Int) := by omega
          have hr := read_bad hk8.out A bb hbad.out (by rw [hLM.out]; exact hAM'.out)
          have hl := flat_len _ (hl40.out i)
          have hl2 := ins_len (linesF k) A bb i
          have hMe := hLM.out
          have kP1 := hidden (kB.out (flatL (insL (linesF k) A bb i)) (A + 1) (by omega) (by rw [hiM.out, ← hLM.out, ins_end _ _ _ (by rw [hLM.out]; exact hAM'.out)]; exact hr) w2 (hup.out w2 hB2.out))
          have hA12 := hAM'.out
          have kN := hidden (fun (wx : World) => kNum.out (A + 1) (by omega) wx)
          rw [show ((A + 1 : Nat) : Int) = (A : Int) + 1 by omega] at kN
          have hAI : (A : Int) ≤ 11 := by omega
          clear hr hl hl2 hMe hA12 hi hle hl40 hb40 hbad hiM hg2
          generalize flatL (insL (linesF k) A bb i) = T0 at *
          go_upto_region 18 with fail
          go_wp2_with fail
          refine kP1.out.mono ?_
          rintro e w5 ⟨b5, rfl, hE, hb5⟩
          have hB5 := hidden (hB2.out.trans (hb5.mono hB2.out.size))
          have hAl := hidden (fun o => (Below.refl w5.heap.size w5).alloc (Nat.le_refl _) o)
          replace hE := hidden hE
          clear hb5 kP1
          dsimp only
          go_upto_region 19 with fail
          go_wp2_with fail
          refine (kN.out _).mono ?_
          rintro e w6 ⟨rfl, hw6⟩
          subst w6
          go_wp2_with fail
          have hB6 := hidden (fun o => hB5.out.trans ((hAl.out o).mono hB5.out.size))
          refine (kI.out (A + 1) _ b5 (hup.out _ (hB6.out _)) (hE.out.below (hAl.out _))).mono ?_
          rintro e w7 ⟨rfl, hb7'⟩
          have hB7 := hidden ((hB6.out _).trans (hb7'.mono (hB6.out _).size))
          clear hb7' hB5 hB6 hAl hE kN hB2 hAI
          go_wp2_with fail
          have hT0 := hidden (show (⟨#[]⟩ : ByteArray) = mkB (flatL ((linesF k).take 0)) from rfl)
          go_loopg [15, 16] M (fun g ts si wx => ∃ j : Nat, j ≤ M ∧ g = M - j ∧ si = .int .i64 (j : Int) ∧ ts = .string (mkB (flatL ((linesF k).take j))) ∧ wx = w7)
          case atStart => exact ⟨0, Nat.zero_le _, rfl, rfl, congrArg Value.string hT0.out, rfl⟩
          case round =>
            obtain ⟨j, hj, hg3, rfl, rfl, hwx⟩ := hrel
            replace hwx := hwx.symm
            subst hwx
            replace hg3 := hidden hg3
            have hts : (mkB (flatL ((linesF k).take j))).size ≤ 600 := by
              rw [mk_size]
              have h1 := flat_len ((linesF k).take j) (fun l hl => (linesF_each hk8.out l (List.mem_of_mem_take hl)).2)
              have h2 := List.length_take_le j (linesF k)
              omega
            clear hT0
            by_cases hjM : j < M
            · have hjMI : (j : Int) < (M : Int) := by omega
              obtain ⟨x, hx⟩ : ∃ x, (linesF k)[j]? = some x := ⟨_, List.getElem?_eq_getElem (by rw [hLM.out]; exact hjM)⟩
              have hxs : (mkB x).size ≤ 40 := by rw [mk_size]; exact (linesF_each hk8.out x (List.mem_of_getElem? hx)).2
              have c7 := hcell.out w7 hB7.out j x hx
              have hR := hidden (show mkB (flatL ((linesF k).take j)) ++ mkB x ++ ⟨#[10]⟩ = mkB (flatL ((linesF k).take (j + 1))) by
                rw [nl_cat, List.take_add_one, hx, ← flat_snoc]; rfl)
              clear hx
              generalize mkB (flatL ((linesF k).take j)) = T1 at *
              generalize mkB x = X0 at *
              go_wp2
              go_roundg (M - (j + 1))
              case measure => rw [hg3.out]; omega
              case rel => exact ⟨j + 1, hjM, rfl, by go_num, congrArg Value.string hR.out, rfl⟩
            · have hjMI : ¬ (j : Int) < (M : Int) := by omega
              have htk : Hid ((linesF k).take j = linesF k) := hidden (List.take_of_length_le (by rw [hLM.out]; omega))
              rw [htk.out] at hts ⊢
              obtain ⟨R, hR⟩ : ∃ R, J % 3 = R := ⟨_, rfl⟩
              have hR3 : R < 3 := by omega
              have hidR : (J : Int).tmod 3 = (R : Int) := by rw [Int.tmod_eq_emod_of_nonneg (by omega)]; omega
              have hRM : (R : Int) < (M : Int) := by have := hLM.out; rw [linesF_len] at this; omega
              obtain ⟨x, hx3⟩ : ∃ x, l3[R]? = some x := ⟨_, List.getElem?_eq_getElem (by show R < 3; exact hR3)⟩
              have hx : (linesF k)[R]? = some x := by rw [linesF, List.getElem?_append_left (by show R < 3; exact hR3)]; exact hx3
              have hxl := (linesF_each hk8.out x (List.mem_of_getElem? hx)).2
              have hxs : (mkB x).size ≤ 40 := by rw [mk_size]; exact hxl
              have c7 := hcell.out w7 hB7.out R x hx
              have hcat := mk_app (flatL (linesF k)) x
              have hfl : (flatL (linesF k)).length ≤ 600 := by rw [mk_size] at hts; exact hts
              have kP2 := hidden (kB.out (flatL (linesF k) ++ x) (M + 1) (by rw [List.length_append]; omega) (by rw [read_dup hk8.out R x hx3, hLM.out]) w7 (hup.out w7 hB7.out))
              have kG3 := hidden (kG.out (flatL (linesF k)) (fullE k) (by omega) (read_ok hk8.out))
              have kN := hidden (fun (wx : World) => kNum.out (M + 1) (by omega) wx)
              rw [show ((M + 1 : Nat) : Int) = (M : Int) + 1 by omega] at kN
              rw [← hcat] at kP2
              clear hx hx3 hxl hcat hfl hR htk hR3 hj
              generalize mkB (flatL (linesF k)) = T1 at *
              generalize mkB x = X0 at *
              go_upto_region 26 with fail
              go_wp2_with fail
              refine kP2.out.mono ?_
              rintro e w8 ⟨b8, rfl, hE, hb8⟩
              have hB8 := hidden (hB7.out.trans (hb8.mono hB7.out.size))
              have hAl := hidden (fun o => (Below.refl w8.heap.size w8).alloc (Nat.le_refl _) o)
              replace hE := hidden hE
              clear hb8 kP2 c7
              dsimp only
              go_upto_region 27 with fail
              go_wp2_with fail
              refine (kG3.out _).mono ?_
              rintro e w9 ⟨v9, rfl, hO, hb9⟩
              obtain ⟨a9, c9, rfl⟩ := hO.form
              clear hO
              have hB9 := hidden (((hB8.out.trans ((hAl.out _).mono hB8.out.size))).trans (hb9.mono (hB8.out.trans ((hAl.out _).mono hB8.out.size)).size))
              have hE9 := hidden ((hE.out.below (hAl.out _)).below hb9)
              have hA9 := hidden (fun o => (Below.refl w9.heap.size w9).alloc (Nat.le_refl _) o)
              clear hb9 hAl hE hB8 kG3
              dsimp only [enV]
              go_upto_region 28 with fail
              go_wp2_with fail
              refine (kN.out _).mono ?_
              rintro e w6 ⟨rfl, hw6⟩
              subst w6
              go_wp2_with fail
              have hBX := hidden (fun o => hB9.out.trans ((hA9.out o).mono hB9.out.size))
              refine (kI.out (M + 1) _ b8 (hup.out _ (hBX.out _)) (hE9.out.below (hA9.out _))).mono ?_
              rintro e wa ⟨rfl, hba⟩
              have hBa := hidden ((hBX.out _).trans (hba.mono (hBX.out _).size))
              clear hba hB9 hBX hA9 hE9 kN
              go_wp2_with fail
              refine (kA.out wa (hup.out _ hBa.out)).mono ?_
              rintro e wb ⟨rfl, hbb⟩
              have hfin := hidden (hup.out _ (hBa.out.trans (hbb.mono hBa.out.size)))
              clear hbb hBa
              go_wp2
              go_ret
              exact ⟨rfl, hfin.out⟩
end Go.Proofs.YtfoamhkgdlebdaaGreatDoor
