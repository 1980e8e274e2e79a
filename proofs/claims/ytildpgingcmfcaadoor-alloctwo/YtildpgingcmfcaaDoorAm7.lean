/- alloc's Give and Free. -/
import Derived.Test.YtildpgingcmfcaaDoorAm3t
import Derived.Test.YtildpgingcmfcaaDoorAm6
namespace Go.Proofs.YtildpgingcmfcaaDoor
open Go.RowKit Go.Extern.Stop Go.Stop Go.Extern Go.Shelf
set_option maxRecDepth 100000

theorem itoa_below (no : Int) (hi : i64 no) {w wx : World} (hG : Ground w) (hx : Below w.heap.size w wx) :
    Calls Tryd.prog 22 #[.int .i64 no] wx fun e w' => e = .returned (.string (itoaB no)) ∧ Below w.heap.size w w' := by
  refine (Tryd.strconv_Itoa no hi.1 hi.2 wx (hG.below hx).p).mono ?_
  rintro ev w1 ⟨rfl, d, os, rfl⟩
  exact ⟨rfl, hx.trans ((Lib.below_grow _ wx (Nat.le_refl _) d os).mono hx.size)⟩
section
variable {w0 : World} {d g n jb cb mb at_ most : Nat} {blocks : Int} {mem : Nat → Int} {writes left : Int} {M : Chg} {w w' : World}
set_option maxHeartbeats 2000000 in
theorem give_calls (h : CSt w0 d g n jb cb mb at_ most blocks mem writes left M w) (hl : left ≠ 0) {ab ma fr k : Nat} (hm : MpAt ab cb ma fr k w) (hf : Fits n blocks ma fr k) (i : Nat) (hi : i < k) (no : Int) (hno : no = fr + i) (htaken : bitM mem M ma i = true) (hmay : MayTurn M most ma i) :
    Calls Tryd.prog 10 #[ptr ab, .int .i64 no] w fun e w' => e = .returned .nilIface ∧ CSt w0 d g n jb cb mb at_ most blocks mem writes left (turnM mem M ma i) w' ∧ Apart [mb] w w' := by
  have ht := hf.top
  have hab := hm.lt
  have hT := itaken_calls h hl hm hf i hi no hno
  rw [htaken] at hT
  replace hT := hidden hT
  have kI := hidden (fun (wx : World) (hx : Below w.heap.size w wx) => itoa_below no ⟨by omega, by omega⟩ h.sys.ground hx)
  have kT := hidden (fun (wx : World) (hx : Below w.heap.size w wx) (x : Int) (he : x = (i : Int)) => he ▸ turn_calls (h.more hx) hl (hm.below hx) hf i hi hmay.1 hmay.2)
  have kc := hidden (fun (wx : World) (hx : Below w.heap.size w wx) => (hm.below hx).c2)
  have hsub : no - (fr : Int) = (i : Int) := by omega
  have hk2 := hf.k2
  have hsub2 := hidden (show IntKind.i64.wrap (i : Int) = (i : Int) from wrap_pos _ (by omega) (by omega))
  have hr1 : 0 ≤ no := by omega
  have hr2 : no ≤ 9223372036854775807 := by omega
  generalize itoaB no = nm at kI
  generalize turnM mem M ma i = M2 at kT ⊢
  replace hno := hidden hno
  clear h hm hf hl htaken hmay
  go_enter Tryd.func10, Tryd.ntmps10
  go_wp2_with fail
  refine (hT.out).mono ?_
  rintro ev w1 ⟨rfl, hB1⟩
  have c2 := kc.out _ hB1
  have hab1 : ab < w1.heap.size := Nat.lt_of_lt_of_le hab hB1.size
  have hBd := hidden (hB1.trans ((below_drew1 w1).mono hB1.size))
  clear hT hB1
  go_upto_region 6 with fail
  go_cut [4] (fun x3 wx => x3 = .nilIface ∧ CSt w0 d g n jb cb mb at_ most blocks mem writes left M2 wx ∧ Apart [mb] w wx)
  case first =>
    go_region_with (first
      | (go_at_call 22; refine (kI.out _ hBd.out).mono ?_; rintro ev w3 ⟨rfl, hB3⟩; have c3 := kc.out _ hB3; have hB3 := hidden hB3)
      | (go_at_call 20; refine (kT.out _ hB3.out _ (by first | rfl | exact hsub2.out)).mono ?_; rintro ev w4 ⟨rfl, hC4, hA4⟩; have hE4 := hidden (And.intro hC4 ((Apart.of_below hB3.out).trans hA4)); clear hC4 hA4)
      | (go_at_call 18; refine (awrong_nil _ _).mono ?_; rintro ev w5 ⟨rfl, rfl⟩))
    all_goals (go_wp2; go_meet; case rel => exact ⟨rfl, hE4.out⟩)
  case rest =>
    obtain ⟨rfl, hE⟩ := hcut
    replace hE := hidden hE
    go_wp2
    go_ret
    exact ⟨rfl, hE.out⟩
set_option maxHeartbeats 1000000 in
theorem give_free (h : CSt w0 d g n jb cb mb at_ most blocks mem writes left M w) (hl : left ≠ 0) {ab ma fr k : Nat} (hm : MpAt ab cb ma fr k w) (hf : Fits n blocks ma fr k) (i : Nat) (hi : i < k) (no : Int) (hno : no = fr + i) (hfree : bitM mem M ma i = false) :
    Calls Tryd.prog 10 #[ptr ab, .int .i64 no] w fun e w' => ∃ b, e = .returned (flt b) ∧ Chain w' [(sAlloc, itoaB no)] (num 7) (flt b) ∧ Below w.heap.size w w' := by
  have ht := hf.top
  have hT := itaken_calls h hl hm hf i hi no hno
  rw [hfree] at hT
  replace hT := hidden hT
  have kI := hidden (fun (wx : World) (hx : Below w.heap.size w wx) => itoa_below no ⟨by omega, by omega⟩ h.sys.ground hx)
  generalize itoaB no = nm at kI ⊢
  have kW := hidden (fun (wx : World) => awrong_some nm wx [] (num 7) _ _ rfl)
  replace hno := hidden hno
  clear h hm hf hl hfree
  go_enter Tryd.func10, Tryd.ntmps10
  go_wp2_with fail
  refine (hT.out).mono ?_
  rintro ev w1 ⟨rfl, hB1⟩
  have hI := hidden (kI.out _ hB1)
  clear hB1 hT
  go_wp2_with fail
  refine (hI.out).mono ?_
  rintro ev w2 ⟨rfl, hB2⟩
  replace hB2 := hidden hB2
  clear hI
  go_wp2_with fail
  refine (kW.out _).mono ?_
  rintro ev w3 ⟨b, rfl, hc, hb, hB3⟩
  have hE := hidden (And.intro hc (hB2.out.trans (hB3.mono hB2.out.size)))
  clear hc hb hB3
  go_wp2
  go_ret
  exact ⟨b, rfl, hE.out⟩
set_option maxHeartbeats 1000000 in
theorem give_bad (hG : Ground w) {ab ma fr k : Nat} (hm : MpAt ab cb ma fr k w) (hf : Fits n blocks ma fr k) (no : Int) (hi : i64 no) (hno : ¬ ((fr : Int) ≤ no ∧ no < fr + k)) :
    Calls Tryd.prog 10 #[ptr ab, .int .i64 no] w fun e w' => ∃ b, e = .returned (flt b) ∧ Chain w' [(sAlloc, itoaB no)] (num 1) (flt b) ∧ Below w.heap.size w w' := by
  have hT := hidden (itaken_bad hm hf no hi hno)
  have kI := hidden (fun (wx : World) (hx : Below w.heap.size w wx) => itoa_below no hi hG hx)
  generalize itoaB no = nm at kI ⊢
  have kW := hidden (fun (wx : World) => awrong_some nm wx [] (num 1) _ _ rfl)
  replace hno := hidden hno
  replace hi := hidden hi
  clear hm hf hG
  go_enter Tryd.func10, Tryd.ntmps10
  go_wp2_with fail
  refine (hT.out).mono ?_
  rintro ev w1 ⟨rfl, hB1⟩
  have hI := hidden (kI.out _ hB1)
  clear hB1 hT
  go_wp2_with fail
  refine (hI.out).mono ?_
  rintro ev w2 ⟨rfl, hB2⟩
  replace hB2 := hidden hB2
  clear hI
  go_wp2_with fail
  refine (kW.out _).mono ?_
  rintro ev w3 ⟨b, rfl, hc, hb, hB3⟩
  have hE := hidden (And.intro hc (hB2.out.trans (hB3.mono hB2.out.size)))
  clear hc hb hB3
  go_wp2
  go_ret
  exact ⟨b, rfl, hE.out⟩
end
/-- How many of the first j are free. -/
def freeN (S : Nat → Bool) (j : Nat) : Nat := (List.range j).countP fun i => !S i
theorem freeN_succ (S : Nat → Bool) (j : Nat) : freeN S (j + 1) = freeN S j + (if S j then 0 else 1) := by
  unfold freeN
  rw [List.range_succ, List.countP_append]
  cases h : S j <;> simp [h]
theorem freeN_le (S : Nat → Bool) (j : Nat) : freeN S j ≤ j := by
  unfold freeN
  refine Nat.le_trans List.countP_le_length ?_
  simp
section
variable {w0 : World} {d g n jb cb mb at_ most : Nat} {blocks : Int} {mem : Nat → Int} {writes left : Int} {M : Chg} {w w' : World}
theorem free1_calls {W : World} {p j : Nat} {x : Int} (hx : 0 ≤ x ∧ x < 1000000) {T : Bool} (h : Going W p (.int .i64 x) w) :
    Calls Tryd.prog 25 #[.int .i64 j, .bool T, ptr p] w fun e w' => e = .returned (.bool true) ∧ w' = if T then w else w.setCell ⟨p, 0, none⟩ (.int .i64 (x + 1)) := by
  have hc := h.cell
  have hf := h.free
  obtain ⟨x0, x1⟩ := hx
  clear h
  cases T with
  | true =>
    go_enter Tryd.func25, Tryd.ntmps25
    go_wp2
    go_ret
    exact ⟨rfl, rfl⟩
  | false =>
    go_enter Tryd.func25, Tryd.ntmps25
    go_wp2
    go_ret
    exact ⟨rfl, rfl⟩
theorem free_sees (h : CSt w0 d g n jb cb mb at_ most blocks mem writes left M w) (hl : left ≠ 0) {ab ma fr k : Nat} (hm : MpAt ab cb ma fr k w) (hf : Fits n blocks ma fr k) (p : Nat) :
    Sees 25 #[ptr p] ab k (fun q => nowM mem M (ma + q)) (fun j wx => Going w p (.int .i64 (freeN (bitM mem M ma) j : Nat)) wx) (fun _ _ => False) where
  few := hf.k2
  ent := enters_of Tryd.func25 (by kernel_rfl) rfl
  more := fun j wx wy hI hb => hI.more hb
  cell := fun wx hI => (hm.below hI.below).c3
  bits := fun j wx hj hI => (bits_calls (h.more hI.below) hl (hm.below hI.below) hf j hj).mono fun e wy ⟨b, h1, h2, h3, h4⟩ => ⟨b, h1, h2.cell, h4⟩
  call := fun j wx b zs hj hI hr => by
    have hle := freeN_le (bitM mem M ma) j
    have hk := hf.k2
    refine (free1_calls (T := bitM mem M ma j) ⟨by omega, by omega⟩ hI).mono ?_
    rintro e wy ⟨rfl, rfl⟩
    left
    have hs := freeN_succ (bitM mem M ma) j
    cases hT : bitM mem M ma j with
    | true =>
      rw [hT] at hs
      simp only [if_true, Nat.add_zero] at hs ⊢
      rw [hs]
      exact ⟨trivial, hI, hr⟩
    | false =>
      rw [hT] at hs
      have e : ((freeN (bitM mem M ma) (j + 1) : Nat) : Int) = (freeN (bitM mem M ma) j : Nat) + 1 := by rw [hs]; simp
      rw [e]
      simp only [Bool.false_eq_true, if_false]
      exact ⟨trivial, hI.set _, hI.row (fun z h => by cases h) _ hr⟩
set_option maxHeartbeats 1000000 in
theorem free_calls (h : CSt w0 d g n jb cb mb at_ most blocks mem writes left M w) (hl : left ≠ 0) {ab ma fr k : Nat} (hm : MpAt ab cb ma fr k w) (hf : Fits n blocks ma fr k) :
    Calls Tryd.prog 13 #[ptr ab] w fun e w' => e = .returned (.tuple #[.int .i64 (freeN (bitM mem M ma) k : Nat), .nilIface]) ∧ Below w.heap.size w w' := by
  have hmf : ∀ (fn : Fn) (first cap : Array Value) (w : World), (Instr.makeFunc fn first cap).run Tryd.prog w = .ok (.func fn first cap) w := fun _ _ _ _ => rfl
  have hG0 : Going w w.heap.size (.int .i64 0) (w.alloc (.cells #[.int .i64 0] 3)) :=
    ⟨by simp, by simp, Nat.le_refl _, (Below.refl _ _).alloc (Nat.le_refl _) _⟩
  have hS := free_sees h hl hm hf w.heap.size
  have hW := hidden (walk_calls hS _ hG0)
  clear hS h hm hf hG0
  go_enter Tryd.func13, Tryd.ntmps13
  go_wp2_with fail
  refine (hW.out).mono ?_
  rintro ev w1 ⟨rfl, (hG1 | ⟨i, hi, hG1⟩)⟩
  · have c1 := hG1.cell
    have hB1 := hidden hG1.below
    clear hG1 hW
    go_wp2
    go_ret2
    exact ⟨rfl, hB1.out⟩
  · exact hG1.elim
end
end Go.Proofs.YtildpgingcmfcaaDoor
