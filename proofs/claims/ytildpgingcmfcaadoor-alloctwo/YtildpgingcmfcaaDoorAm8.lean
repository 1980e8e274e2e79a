/- A Map that a statement of layer 7 has made: its calls, one behind the other; layer 7's awake. -/
import Derived.Test.YtildpgingcmfcaaDoorAm7
namespace Go.Proofs.YtildpgingcmfcaaDoor
open Go.RowKit Go.Extern.Stop Go.Stop Go.Extern Go.Shelf
set_option maxRecDepth 100000

theorem need80 : 60 + needN 80 ≤ 160 := by decide
theorem idle_zero7 (at_ : Nat) : Idle at_ (fun _ => 0) := by
  show blockL (fun _ => 0) at_ = List.replicate 128 0
  apply List.ext_getElem?
  intro j
  by_cases hj : j < 128
  · rw [blockL_get _ _ _ hj, List.getElem?_replicate, if_pos hj]
  · rw [List.getElem?_eq_none (by rw [blockL_len]; omega), List.getElem?_replicate, if_neg hj]
theorem made7_calls (w : World) (hG : Ground w) :
    Calls Tryd.prog 7 #[.int .i64 60] w fun e w' => ∃ jb cb mb, e = .returned (.tuple #[ptr (w.heap.size + 1), ptr cb]) ∧ CSt w (w.heap.size + 1) w.heap.size 160 jb cb mb 60 80 60 (fun _ => 0) 0 (-1) [] w' := by
  go_enter Tryd.func7, Tryd.ntmps7
  go_wp2_with fail
  refine (sys_new 160 (by omega) (by omega) w hG).mono ?_
  rintro ev w1 ⟨rfl, hS⟩
  have hO := hidden (open_idle hS (by decide) 60 80 ⟨by omega, by omega⟩ need80 (idle_zero7 60))
  have hdl1 := hS.disk.lt
  replace hS := hidden hS
  clear hG
  go_wp2_with fail
  refine (hO.out).mono ?_
  rintro ev w2 ⟨jb, rfl, hJ, hjb, hB2⟩
  have hN := hidden (cnew_calls (hS.out.more hB2) hJ ⟨by omega, by omega⟩ 60 (by omega))
  clear hO hS hJ hB2
  go_wp2_with fail
  refine (hN.out).mono ?_
  rintro ev w3 ⟨rfl, hC, -⟩
  replace hC := hidden hC
  clear hN
  go_wp2
  go_ret2
  exact ⟨jb, _, _, rfl, hC.out⟩
def setS (S : Nat → Bool) (i : Nat) (b : Bool) : Nat → Bool := fun j => if j = i then b else S j
theorem bit_zero (ma i : Nat) : bitM (fun _ => 0) [] ma i = false := by
  unfold bitM byteA nowM
  have : ∀ (l : List Int) (q : Nat), (∀ z ∈ l, z = 0) → l.getD q 0 = 0 := fun l q hz => by
    rw [List.getD_eq_getElem?_getD]
    cases hq : l[q]? with
    | none => rfl
    | some z => exact hz z (List.mem_of_getElem? hq)
  rw [getM_none rfl, this _ _ (fun z hz => by obtain ⟨j, -, rfl⟩ := List.mem_map.1 (show z ∈ (List.range 128).map (fun j => (0 : Int)) from hz); rfl)]
  exact tb_zero _
/-- The changes are of the first ten blocks alone. -/
abbrev Keys (M : Chg) : Prop := ∀ p ∈ M, (0 : Int) ≤ p.1 ∧ p.1 < 10
theorem Keys.may {M : Chg} (h : Keys M) (ht : Tidy M) (ma i : Nat) : MayTurn M 80 ma i := by
  have := ht.few 0 10 (by omega) h
  exact ⟨by rw [Bool.or_eq_true]; right; simp; omega, by omega⟩
theorem Keys.turn {M : Chg} (h : Keys M) (mem : Nat → Int) {ma i : Nat} (hh : homeA ma i < 10) : Keys (turnM mem M ma i) := fun p hp => by
  rcases mem_put.1 hp with rfl | ⟨hp, -⟩
  · show (0 : Int) ≤ (homeA ma i : Nat) ∧ ((homeA ma i : Nat) : Int) < 10
    omega
  · exact h p hp
structure ASt (w0 : World) (d g jb cb mb ab ma fr k : Nat) (S : Nat → Bool) (w : World) : Prop where
  ex : ∃ M, CSt w0 d g 160 jb cb mb 60 80 60 (fun _ => 0) 0 (-1) M w ∧ Keys M ∧ ∀ i, i < k → bitM (fun _ => 0) M ma i = S i
  mp : MpAt ab cb ma fr k w
  fit : Fits 160 60 ma fr k
  few : ma + 3 ≤ 10
  ne : ab ≠ mb
section
variable {w0 : World} {d g jb cb mb ab ma fr k : Nat} {S : Nat → Bool} {w w' : World}
theorem ASt.more (h : ASt w0 d g jb cb mb ab ma fr k S w) (hb : Below w.heap.size w w') : ASt w0 d g jb cb mb ab ma fr k S w' := by
  obtain ⟨M, h1, h2, h3⟩ := h.ex
  exact ⟨⟨M, h1.more hb, h2, h3⟩, h.mp.below hb, h.fit, h.few, h.ne⟩
theorem ASt.ground (h : ASt w0 d g jb cb mb ab ma fr k S w) : Ground w := by obtain ⟨M, h1, -⟩ := h.ex; exact h1.sys.ground
theorem ASt.below (h : ASt w0 d g jb cb mb ab ma fr k S w) : Below w0.heap.size w0 w := by obtain ⟨M, h1, -⟩ := h.ex; exact h1.sys.below
theorem ASt.mlt (h : ASt w0 d g jb cb mb ab ma fr k S w) : mb < w.heap.size := by obtain ⟨M, h1, -⟩ := h.ex; exact h1.lts.2.2.2.2.1
/-- Another new block of the statement's has turned. -/
theorem ASt.turnB (h : ASt w0 d g jb cb mb ab ma fr k S w) {b : Nat} (ha : Apart [b] w w') (hb : d ≠ b ∧ g ≠ b ∧ jb ≠ b ∧ cb ≠ b ∧ mb ≠ b ∧ ab ≠ b ∧ w0.heap.size ≤ b) : ASt w0 d g jb cb mb ab ma fr k S w' := by
  obtain ⟨M, h1, h2, h3⟩ := h.ex
  exact ⟨⟨M, h1.turnB ha ⟨hb.1, hb.2.1, hb.2.2.1, hb.2.2.2.1, hb.2.2.2.2.1, hb.2.2.2.2.2.2⟩, h2, h3⟩, h.mp.keep ha (by simpa using hb.2.2.2.2.2.1), h.fit, h.few, h.ne⟩
theorem ASt.lts (h : ASt w0 d g jb cb mb ab ma fr k S w) : d < w.heap.size ∧ g < w.heap.size ∧ jb < w.heap.size ∧ cb < w.heap.size ∧ mb < w.heap.size ∧ ab < w.heap.size ∧ w0.heap.size ≤ w.heap.size := by
  obtain ⟨M, h1, -⟩ := h.ex
  obtain ⟨a, b, c, e, f, g⟩ := h1.lts
  exact ⟨a, b, c, e, f, h.mp.lt, g⟩
theorem ASt.congr {S' : Nat → Bool} (h : ASt w0 d g jb cb mb ab ma fr k S w) (he : ∀ i, i < k → S i = S' i) : ASt w0 d g jb cb mb ab ma fr k S' w := by
  obtain ⟨M, h1, h2, h3⟩ := h.ex
  exact ⟨⟨M, h1, h2, fun i hi => (h3 i hi).trans (he i hi)⟩, h.mp, h.fit, h.few, h.ne⟩
theorem ASt.turned {M : Chg} (h : ASt w0 d g jb cb mb ab ma fr k S w) (hk : Keys M) (hr : ∀ no, Row (nowM (fun _ => 0) M no)) (ht : Tidy M) (hb : ∀ j, j < k → bitM (fun _ => 0) M ma j = S j) (i : Nat) (hi : i < k)
    (hc : CSt w0 d g 160 jb cb mb 60 80 60 (fun _ => 0) 0 (-1) (turnM (fun _ => 0) M ma i) w') (ha : Apart [mb] w w') : ASt w0 d g jb cb mb ab ma fr k (setS S i (!S i)) w' := by
  have hk2 := h.fit.k2
  have hf := h.few
  refine ⟨⟨_, hc, hk.turn _ (by unfold homeA; omega), fun j hj => ?_⟩, h.mp.keep ha (by simpa using h.ne), h.fit, h.few, h.ne⟩
  rw [bit_turn ht hr, hb j hj]
  unfold setS
  by_cases e : j = i
  · subst e; simp
  · simp [e]
theorem ASt.take (h : ASt w0 d g jb cb mb ab ma fr k S w) (i : Nat) (hi : i < k) (hfree : S i = false) (hlow : ∀ j, j < i → S j = true) :
    Calls Tryd.prog 9 #[ptr ab] w fun e w' => e = .returned (.tuple #[.int .i64 (fr + i : Nat), .nilIface]) ∧ ASt w0 d g jb cb mb ab ma fr k (setS S i true) w' ∧ Apart [mb] w w' := by
  obtain ⟨M, h1, h2, h3⟩ := h.ex
  refine (take_calls h1 (by decide) h.mp h.fit h.ne i hi ((h3 i hi).trans hfree) (fun j hj => (h3 j (by omega)).trans (hlow j hj)) (h2.may h1.map.tidy ma i)).mono ?_
  rintro e w' ⟨rfl, hc, ha⟩
  have := h.turned h2 h1.rows h1.map.tidy h3 i hi hc ha
  rw [hfree] at this
  exact ⟨rfl, this, ha⟩
theorem ASt.full (h : ASt w0 d g jb cb mb ab ma fr k S w) (hall : ∀ j, j < k → S j = true) :
    Calls Tryd.prog 9 #[ptr ab] w fun e w' => ∃ b, e = .returned (.tuple #[.int .i64 0, flt b]) ∧ Chain w' [(sAlloc, sNone)] (num 15) (flt b) ∧ Below w.heap.size w w' := by
  obtain ⟨M, h1, h2, h3⟩ := h.ex
  exact take_full h1 (by decide) h.mp h.fit (fun j hj => (h3 j hj).trans (hall j hj))
theorem ASt.give (h : ASt w0 d g jb cb mb ab ma fr k S w) (i : Nat) (hi : i < k) (no : Int) (hno : no = fr + i) (ht : S i = true) :
    Calls Tryd.prog 10 #[ptr ab, .int .i64 no] w fun e w' => e = .returned .nilIface ∧ ASt w0 d g jb cb mb ab ma fr k (setS S i false) w' ∧ Apart [mb] w w' := by
  obtain ⟨M, h1, h2, h3⟩ := h.ex
  refine (give_calls h1 (by decide) h.mp h.fit i hi no hno ((h3 i hi).trans ht) (h2.may h1.map.tidy ma i)).mono ?_
  rintro e w' ⟨rfl, hc, ha⟩
  have := h.turned h2 h1.rows h1.map.tidy h3 i hi hc ha
  rw [ht] at this
  exact ⟨rfl, this, ha⟩
theorem ASt.give7 (h : ASt w0 d g jb cb mb ab ma fr k S w) (i : Nat) (hi : i < k) (no : Int) (hno : no = fr + i) (hf : S i = false) :
    Calls Tryd.prog 10 #[ptr ab, .int .i64 no] w fun e w' => ∃ b, e = .returned (flt b) ∧ Chain w' [(sAlloc, itoaB no)] (num 7) (flt b) ∧ Below w.heap.size w w' := by
  obtain ⟨M, h1, h2, h3⟩ := h.ex
  exact give_free h1 (by decide) h.mp h.fit i hi no hno ((h3 i hi).trans hf)
theorem freeN_congr {S T : Nat → Bool} : ∀ (k : Nat), (∀ i, i < k → S i = T i) → freeN S k = freeN T k
  | 0, _ => rfl
  | k + 1, h => by rw [freeN_succ, freeN_succ, freeN_congr k (fun i hi => h i (by omega)), h k (by omega)]
theorem ASt.count (h : ASt w0 d g jb cb mb ab ma fr k S w) :
    Calls Tryd.prog 13 #[ptr ab] w fun e w' => e = .returned (.tuple #[.int .i64 (freeN S k : Nat), .nilIface]) ∧ Below w.heap.size w w' := by
  obtain ⟨M, h1, h2, h3⟩ := h.ex
  have := free_calls h1 (by decide) h.mp h.fit
  rw [freeN_congr k h3] at this
  exact this
end
/-- A new Map of a Cache that Made has made. -/
theorem ast_new {w0 : World} {d g jb cb mb : Nat} {w : World} (h : CSt w0 d g 160 jb cb mb 60 80 60 (fun _ => 0) 0 (-1) [] w) (ma fr k : Nat) (h1 : 1 ≤ k) (h2 : k ≤ 2048) (hm : ma + 3 ≤ 10) (ht : fr + k ≤ 1000000) :
    Calls Tryd.prog 8 #[ptr cb, .int .i64 ma, .int .i64 fr, .int .i64 k] w fun e w' => e = .returned (.tuple #[ptr w.heap.size, .nilIface]) ∧ ASt w0 d g jb cb mb w.heap.size ma fr k (fun _ => false) w' ∧ Below w.heap.size w w' := by
  refine (anew_calls cb ma fr k h1 h2 (by omega) w).mono ?_
  rintro e w' ⟨rfl, hM, hB⟩
  have hl := h.lts
  exact ⟨rfl, ⟨⟨[], h.more hB, (fun p hp => by cases hp), (fun i _ => bit_zero ma i)⟩, hM, ⟨by omega, h1, h2, by unfold homeA; omega, by unfold homeA; omega, by omega⟩, hm, by omega⟩, hB⟩
set_option maxHeartbeats 2000000 in
theorem awake7_calls (w : World) (hG : Ground w) :
    Calls Tryd.prog 12 #[] w fun e w' => e = .returned (.bool true) ∧ Below w.heap.size w w' := by
  have hmd := hidden (made7_calls w hG)
  clear hG
  go_enter Tryd.func12, Tryd.ntmps12
  go_wp2_with fail
  refine (hmd.out).mono ?_
  rintro ev w1 ⟨jb, cb, mb, rfl, hC1⟩
  have hN := hidden (ast_new hC1 0 10 40 (by omega) (by omega) (by omega) (by omega))
  clear hmd hC1
  go_wp2_with fail
  refine (hN.out).mono ?_
  rintro ev w2 ⟨rfl, hA2, -⟩
  have hT := hidden (hA2.take 0 (by omega) rfl (fun j hj => absurd hj (by omega)))
  clear hN hA2
  go_wp2_with fail
  refine (hT.out).mono ?_
  rintro ev w3 ⟨rfl, hA3, -⟩
  have hT2 := hidden (hA3.take 1 (by omega) (by simp [setS]) (fun j hj => by obtain rfl : j = 0 := (by omega); simp [setS]))
  clear hT hA3
  go_wp2_with fail
  refine (hT2.out).mono ?_
  rintro ev w4 ⟨rfl, hA4, -⟩
  have hT3 := hidden (hA4.give 0 (by omega) 10 (by omega) (by simp [setS]))
  clear hT2 hA4
  go_wp2_with fail
  refine (hT3.out).mono ?_
  rintro ev w5 ⟨rfl, hA5, -⟩
  have hT4 := hidden (hA5.take 0 (by omega) (by simp [setS]) (fun j hj => absurd hj (by omega)))
  clear hT3 hA5
  go_wp2_with fail
  refine (hT4.out).mono ?_
  rintro ev w6 ⟨rfl, hA6, -⟩
  have hE := hidden hA6.below
  clear hT4 hA6
  go_wp2
  go_ret
  exact ⟨by simp, hE.out⟩
end Go.Proofs.YtildpgingcmfcaaDoor
