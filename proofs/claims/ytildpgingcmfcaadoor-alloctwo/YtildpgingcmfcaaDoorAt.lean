/- AllocTwo, walked. -/
import Derived.Test.YtildpgingcmfcaaDoorAm9
import Derived.Deep.CutBlock
namespace Go.Proofs.YtildpgingcmfcaaDoor
open Go.RowKit Go.Extern.Stop Go.Stop Go.Extern Go.Shelf
set_option maxRecDepth 100000

/-- A list of bools that was handed in. -/
def BoolsAt (w : World) (v : Value) (n : Nat) (B : Nat → Bool) : Prop :=
  ∃ a cap, v = .slice a n cap ∧ n ≤ maxLen ∧ (0 < n → ∃ b off, a = some ⟨b, off, none⟩ ∧ b < w.heap.size ∧ ∀ k, k < n → w.cell? ⟨b, off + k, none⟩ = some (.bool (B k)))
/-- Two Maps over one Cache, of which the first n and m are taken. -/
structure TSt (w0 : World) (d g jb cb mb a b n m : Nat) (w : World) : Prop where
  ex : ∃ M, CSt w0 d g 160 jb cb mb 60 80 60 (fun _ => 0) 0 (-1) M w ∧ Keys M ∧ (∀ i, i < 40 → bitM (fun _ => 0) M 0 i = firstS n i) ∧ ∀ i, i < 40 → bitM (fun _ => 0) M 1 i = firstS m i
  pa : MpAt a cb 0 20 40 w
  pb : MpAt b cb 1 100 40 w
  ne : a ≠ mb ∧ b ≠ mb
theorem fitA : Fits 160 60 0 20 40 := ⟨by omega, by omega, by omega, by unfold homeA; omega, by unfold homeA; omega, by omega⟩
theorem fitB : Fits 160 60 1 100 40 := ⟨by omega, by omega, by omega, by unfold homeA; omega, by unfold homeA; omega, by omega⟩
section
variable {w0 : World} {d g jb cb mb a b n m : Nat} {w w' : World}
theorem TSt.more (h : TSt w0 d g jb cb mb a b n m w) (hb : Below w.heap.size w w') : TSt w0 d g jb cb mb a b n m w' := by
  obtain ⟨M, h1, h2⟩ := h.ex
  exact ⟨⟨M, h1.more hb, h2⟩, h.pa.below hb, h.pb.below hb, h.ne⟩
theorem TSt.below (h : TSt w0 d g jb cb mb a b n m w) : Below w0.heap.size w0 w := by obtain ⟨M, h1, -⟩ := h.ex; exact h1.sys.below
theorem TSt.takeA (h : TSt w0 d g jb cb mb a b n m w) (hn : n < 40) :
    Calls Tryd.prog 9 #[ptr a] w fun e w' => e = .returned (.tuple #[.int .i64 (20 + n : Nat), .nilIface]) ∧ TSt w0 d g jb cb mb a b (n + 1) m w' := by
  obtain ⟨M, h1, h2, h3, h4⟩ := h.ex
  refine (take_calls h1 (by decide) h.pa fitA h.ne.1 n hn ((h3 n hn).trans (by simp [firstS])) (fun j hj => (h3 j (by omega)).trans (by simp [firstS]; omega)) (h2.may h1.map.tidy 0 n)).mono ?_
  rintro e w' ⟨rfl, hc, hA⟩
  refine ⟨rfl, ⟨_, hc, h2.turn _ (by unfold homeA; omega), fun i hi => ?_, fun i hi => ?_⟩, h.pa.keep hA (by simpa using h.ne.1), h.pb.keep hA (by simpa using h.ne.2), h.ne⟩
  · rw [bit_turn h1.map.tidy h1.rows, h3 i hi, ← firstS_succ]
    unfold setS firstS
    by_cases e : i = n
    · subst e; simp
    · simp [e]
  · rw [bit_turn_other h1.map.tidy h1.rows _ _ (by unfold homeA; omega)]
    exact h4 i hi
theorem TSt.takeB (h : TSt w0 d g jb cb mb a b n m w) (hm : m < 40) :
    Calls Tryd.prog 9 #[ptr b] w fun e w' => e = .returned (.tuple #[.int .i64 (100 + m : Nat), .nilIface]) ∧ TSt w0 d g jb cb mb a b n (m + 1) w' := by
  obtain ⟨M, h1, h2, h3, h4⟩ := h.ex
  refine (take_calls h1 (by decide) h.pb fitB h.ne.2 m hm ((h4 m hm).trans (by simp [firstS])) (fun j hj => (h4 j (by omega)).trans (by simp [firstS]; omega)) (h2.may h1.map.tidy 1 m)).mono ?_
  rintro e w' ⟨rfl, hc, hA⟩
  refine ⟨rfl, ⟨_, hc, h2.turn _ (by unfold homeA; omega), fun i hi => ?_, fun i hi => ?_⟩, h.pa.keep hA (by simpa using h.ne.1), h.pb.keep hA (by simpa using h.ne.2), h.ne⟩
  · rw [bit_turn_other h1.map.tidy h1.rows _ _ (by unfold homeA; omega)]
    exact h3 i hi
  · rw [bit_turn h1.map.tidy h1.rows, h4 i hi, ← firstS_succ]
    unfold setS firstS
    by_cases e : i = m
    · subst e; simp
    · simp [e]
theorem TSt.countA (h : TSt w0 d g jb cb mb a b n m w) (hn : n ≤ 40) :
    Calls Tryd.prog 13 #[ptr a] w fun e w' => e = .returned (.tuple #[.int .i64 (40 - n : Nat), .nilIface]) ∧ TSt w0 d g jb cb mb a b n m w' := by
  obtain ⟨M, h1, h2, h3, h4⟩ := h.ex
  refine (free_calls h1 (by decide) h.pa fitA).mono ?_
  rintro e w' ⟨rfl, hB⟩
  rw [freeN_congr 40 h3, freeN_first n 40 hn]
  exact ⟨rfl, h.more hB⟩
theorem TSt.countB (h : TSt w0 d g jb cb mb a b n m w) (hm : m ≤ 40) :
    Calls Tryd.prog 13 #[ptr b] w fun e w' => e = .returned (.tuple #[.int .i64 (40 - m : Nat), .nilIface]) ∧ TSt w0 d g jb cb mb a b n m w' := by
  obtain ⟨M, h1, h2, h3, h4⟩ := h.ex
  refine (free_calls h1 (by decide) h.pb fitB).mono ?_
  rintro e w' ⟨rfl, hB⟩
  rw [freeN_congr 40 h4, freeN_first m 40 hm]
  exact ⟨rfl, h.more hB⟩
end
set_option maxHeartbeats 8000000 in
theorem allocTwo_calls (v : Value) (len : Nat) (B : Nat → Bool) (w : World) (hv : BoolsAt w v len B) (hG : Ground w) :
    Calls Tryd.prog 4 #[v] w fun e w' => e = .returned (.bool true) ∧ Below w.heap.size w w' := by
  have hmd := hidden (made7_calls w hG)
  have kA := hidden (fun (wx : World) (hx : Below w.heap.size w wx) => awake7_calls wx (hG.below hx))
  have hV := hidden hv
  obtain ⟨av, vcap, rfl, hmax, -⟩ := hv
  have hmax2 : (len : Int) ≤ 9223372036854775807 := by unfold maxLen at hmax; omega
  clear hG hmax
  go_enter Tryd.func4, Tryd.ntmps4
  go_wp2_with fail
  refine (hmd.out).mono ?_
  rintro ev w1 ⟨jb, cb, mb, rfl, hC1⟩
  have hl1 := hC1.lts
  have hNa := hidden (anew_calls cb 0 20 40 (by omega) (by omega) (by omega) w1)
  replace hC1 := hidden hC1
  clear hmd
  go_wp2_with fail
  refine (hNa.out).mono ?_
  rintro ev w2 ⟨rfl, hMa, hB2⟩
  have hNb := hidden (anew_calls cb 1 100 40 (by omega) (by omega) (by omega) w2)
  have hC2 := hidden (hC1.out.more hB2)
  have hz2 := hB2.size
  have hla := hMa.lt
  replace hMa := hidden hMa
  clear hC1 hNa hB2
  go_wp2_with fail
  refine (hNb.out).mono ?_
  rintro ev w3 ⟨rfl, hMb, hB3⟩
  have hT3 : TSt w (w.heap.size + 1) w.heap.size jb cb mb w1.heap.size w2.heap.size 0 0 w3 :=
    ⟨⟨[], hC2.out.more hB3, (fun p hp => by cases hp), (fun i _ => by rw [bit_zero]; simp [firstS]), (fun i _ => by rw [bit_zero]; simp [firstS])⟩, hMa.out.below hB3, hMb, by omega⟩
  replace hT3 := hidden hT3
  clear hC2 hMa hMb hB3 hNb hla hz2 hl1
  generalize w1.heap.size = a at hT3 ⊢
  generalize w2.heap.size = b at hT3 ⊢
  generalize hd : w.heap.size + 1 = d at hT3 ⊢
  clear hd
  go_upto_block 0 with fail
  go_cut [9, 10] (fun nv mv wx => ∃ n m : Nat, nv = .int .i64 n ∧ mv = .int .i64 m ∧ n ≤ 40 ∧ m ≤ 40 ∧ TSt w d w.heap.size jb cb mb a b n m wx)
  case first =>
    go_wp2_with fail
    go_loopg [9, 10, 11] 41 (fun gk nv mv q wr => ∃ i n m : Nat, i ≤ 40 ∧ n + m = i ∧ gk = 41 - i ∧ nv = .int .i64 n ∧ mv = .int .i64 m ∧ q = .int .i64 i ∧ Hid (TSt w d w.heap.size jb cb mb a b n m wr))
    case atStart => exact ⟨0, 0, 0, by omega, rfl, rfl, rfl, rfl, rfl, hT3⟩
    case round =>
      obtain ⟨i, n, m, hi, hnm, hgk, rfl, rfl, rfl, hI⟩ := hrel
      replace hgk := hidden hgk
      replace hnm := hidden hnm
      clear hT3
      by_cases hlt : i < len ∧ i < 40
      · have hl1 : (i : Int) < (len : Int) := by omega
        have hl2 : (i : Int) < 40 := by omega
        obtain ⟨av', vc, hve, -, hcs⟩ := hV.out
        obtain ⟨rfl, -, -⟩ := Value.slice.inj hve
        obtain ⟨vb, off, rfl, hvb, hcell⟩ := hcs (by omega)
        have hci := (hI.out.below.cell (p := ⟨vb, off + i, none⟩) hvb).trans (hcell i hlt.1)
        have hn40 : n < 40 := by have := hnm.out; omega
        have hm40 : m < 40 := by have := hnm.out; omega
        have hxl := hidden hlt
        clear hve hcs hcell hlt hvb
        cases hb : B i with
        | true =>
          rw [hb] at hci
          have hT := hidden (hI.out.takeA hn40)
          go_wp2_with fail
          refine (hT.out).mono ?_
          rintro ev w4 ⟨rfl, hI4⟩
          replace hI4 := hidden hI4
          clear hT hI
          go_wp2
          go_roundg (41 - (i + 1))
          case measure => rw [hgk.out]; omega
          case rel => exact ⟨i + 1, n + 1, m, by have := hxl.out; omega, by have := hnm.out; omega, rfl, by go_num, rfl, by go_num, hI4⟩
        | false =>
          rw [hb] at hci
          have hT := hidden (hI.out.takeB hm40)
          go_wp2_with fail
          refine (hT.out).mono ?_
          rintro ev w4 ⟨rfl, hI4⟩
          replace hI4 := hidden hI4
          clear hT hI
          go_wp2
          go_roundg (41 - (i + 1))
          case measure => rw [hgk.out]; omega
          case rel => exact ⟨i + 1, n, m + 1, by have := hxl.out; omega, by have := hnm.out; omega, rfl, rfl, by go_num, by go_num, hI4⟩
      · by_cases hl0 : i < len
        · have hl1 : (i : Int) < (len : Int) := by omega
          have hl2 : ¬ (i : Int) < 40 := by omega
          replace hlt := hidden hlt
          go_wp2
          go_meet
          case rel => exact ⟨n, m, rfl, rfl, by have := hnm.out; omega, by have := hnm.out; omega, hI.out⟩
        · have hl1 : ¬ (i : Int) < (len : Int) := by omega
          replace hlt := hidden hlt
          go_wp2
          go_meet
          case rel => exact ⟨n, m, rfl, rfl, by have := hnm.out; omega, by have := hnm.out; omega, hI.out⟩
  case rest =>
    obtain ⟨n, m, rfl, rfl, hn, hm, hT⟩ := hcut
    have hC := hidden (hT.countA hn)
    clear hT hT3
    go_wp2_with fail
    refine (hC.out).mono ?_
    rintro ev w4 ⟨rfl, hT4⟩
    have hC2 := hidden (hT4.countB hm)
    clear hC hT4
    go_wp2_with fail
    refine (hC2.out).mono ?_
    rintro ev w5 ⟨rfl, hT5⟩
    have hA := hidden (kA.out w5 hT5.below)
    have hB5 := hidden hT5.below
    clear hC2 hT5
    have e1 : ((40 - n : Nat) : Int) = 40 - (n : Int) := by omega
    have e2 : ((40 - m : Nat) : Int) = 40 - (m : Int) := by omega
    go_wp2_with fail
    refine (hA.out).mono ?_
    rintro ev w6 ⟨rfl, hB6⟩
    have hE := hidden (hB5.out.trans (hB6.mono hB5.out.size))
    clear hA hB6
    go_wp2
    go_ret
    exact ⟨rfl, hE.out⟩
end Go.Proofs.YtildpgingcmfcaaDoor
