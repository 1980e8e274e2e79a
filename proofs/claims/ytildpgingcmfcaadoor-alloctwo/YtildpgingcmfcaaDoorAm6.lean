/- alloc's Take, taken and Give. -/
import Derived.Test.YtildpgingcmfcaaDoorAm3t
import Derived.Test.YtildpgingcmfcaaDoorAm5
namespace Go.Proofs.YtildpgingcmfcaaDoor
open Go.RowKit Go.Extern.Stop Go.Stop Go.Extern Go.Shelf
set_option maxRecDepth 100000

section
variable {w0 : World} {d g n jb cb mb at_ most : Nat} {blocks : Int} {mem : Nat → Int} {writes left : Int} {M : Chg} {w w' : World}
/-- A step may change index i's block. -/
abbrev MayTurn (M : Chg) (most ma i : Nat) : Prop := (hasM (homeA ma i : Nat) M || decide (M.length < most)) = true ∧ M.length ≤ 100000
set_option maxHeartbeats 1000000 in
theorem take_calls (h : CSt w0 d g n jb cb mb at_ most blocks mem writes left M w) (hl : left ≠ 0) {ab ma fr k : Nat} (hm : MpAt ab cb ma fr k w) (hf : Fits n blocks ma fr k) (hab : ab ≠ mb) (i : Nat) (hi : i < k) (hfree : bitM mem M ma i = false) (hlow : ∀ j, j < i → bitM mem M ma j = true) (hmay : MayTurn M most ma i) :
    Calls Tryd.prog 9 #[ptr ab] w fun e w' => e = .returned (.tuple #[.int .i64 (fr + i : Nat), .nilIface]) ∧ CSt w0 d g n jb cb mb at_ most blocks mem writes left (turnM mem M ma i) w' ∧ Apart [mb] w w' := by
  have ht := hf.top
  have hL := hidden (least_calls h hl hm hf)
  have kT := hidden (fun (wx : World) (hx : Below w.heap.size w wx) => turn_calls (h.more hx) hl (hm.below hx) hf i hi hmay.1 hmay.2)
  have kM := hidden (fun (wx : World) (hx : Apart [mb] w wx) => (hm.keep hx (by simpa using hab)).c2)
  have hun : Hid (∀ i', i' < k → bitM mem M ma i' = false → (∀ j, j < i' → bitM mem M ma j = true) → i' = i) := hidden (fun i' _ h1 h2 => by
    rcases Nat.lt_trichotomy i i' with hlt | rfl | hgt
    · have := h2 i hlt; rw [hfree] at this; cases this
    · rfl
    · have := hlow i' hgt; rw [h1] at this; cases this)
  have hfull : Hid (¬ ∀ j, j < k → bitM mem M ma j = true) := hidden (fun hh => by have := hh i hi; rw [hfree] at this; cases this)
  clear h hm hf hmay hfree hlow hl
  go_enter Tryd.func9, Tryd.ntmps9
  go_wp2_with fail
  refine (hL.out).mono ?_
  rintro ev w1 ⟨hB1, (⟨i', hi', rfl, h1, h2⟩ | ⟨rfl, h1⟩)⟩
  · obtain rfl := hun.out i' hi' h1 h2
    have hT := hidden (kT.out w1 hB1)
    replace hB1 := hidden hB1
    clear h1 h2 kT hL hun hfull
    go_wp2_with fail
    refine (hT.out).mono ?_
    rintro ev w2 ⟨rfl, hC2, hA2⟩
    have hA := (Apart.of_below (bs := [mb]) hB1.out).trans hA2
    have c2 := kM.out _ hA
    have hE := hidden (And.intro hC2 hA)
    clear hC2 hA2 hA hT
    go_wp2
    go_ret2
    exact ⟨by simp, hE.out⟩
  · exact absurd h1 hfull.out
set_option maxHeartbeats 1000000 in
theorem take_full (h : CSt w0 d g n jb cb mb at_ most blocks mem writes left M w) (hl : left ≠ 0) {ab ma fr k : Nat} (hm : MpAt ab cb ma fr k w) (hf : Fits n blocks ma fr k) (hall : ∀ j, j < k → bitM mem M ma j = true) :
    Calls Tryd.prog 9 #[ptr ab] w fun e w' => ∃ b, e = .returned (.tuple #[.int .i64 0, flt b]) ∧ Chain w' [(sAlloc, sNone)] (num 15) (flt b) ∧ Below w.heap.size w w' := by
  have hL := hidden (least_calls h hl hm hf)
  replace hall := hidden hall
  have kW := hidden (fun (wx : World) => awrong_some sNone wx [] (num 15) _ _ rfl)
  clear h hm hf hl
  go_enter Tryd.func9, Tryd.ntmps9
  go_wp2_with fail
  refine (hL.out).mono ?_
  rintro ev w1 ⟨hB1, (⟨i', hi', rfl, h1, h2⟩ | ⟨rfl, h1⟩)⟩
  · have := hall.out i' hi'
    rw [h1] at this
    cases this
  · replace hB1 := hidden hB1
    clear h1 hL
    go_wp2_with fail
    refine (kW.out _).mono ?_
    rintro ev w2 ⟨b, rfl, hc, hb, hB2⟩
    have hE := hidden (And.intro hc (hB1.out.trans (hB2.mono hB1.out.size)))
    clear hc hb hB2
    go_wp2
    go_ret2
    exact ⟨b, rfl, hE.out⟩
set_option maxHeartbeats 1000000 in
/-- Whether a block of the Map's is taken. -/
theorem itaken_calls (h : CSt w0 d g n jb cb mb at_ most blocks mem writes left M w) (hl : left ≠ 0) {ab ma fr k : Nat} (hm : MpAt ab cb ma fr k w) (hf : Fits n blocks ma fr k) (i : Nat) (hi : i < k) (no : Int) (hno : no = fr + i) :
    Calls Tryd.prog 21 #[ptr ab, .int .i64 no] w fun e w' => e = .returned (.tuple #[.bool (bitM mem M ma i), .nilIface]) ∧ Below w.heap.size w w' := by
  have ht := hf.top
  have hk2 := hf.k2
  have c2 := hm.c2
  have c3 := hm.c3
  have kB := hidden (fun (wx : World) (hx : Below w.heap.size w wx) => bits_calls (h.more hx) hl (hm.below hx) hf i hi)
  have kS := hidden (fun (wx : World) (b : Nat) (hL : Lie wx b (nowM mem M (homeA ma i))) => set_calls i b (by omega) (byteA mem M ma i) wx (hL.cell (spotA i) (spotA_lt i)))
  have kc := hidden (fun (wx : World) (hx : Below w.heap.size w wx) => (hm.below hx).c2)
  have hsub : no - (fr : Int) = (i : Int) := by omega
  have hge : ¬ no < (fr : Int) := by omega
  have hlt : ¬ (k : Int) ≤ (i : Int) := by omega
  have hr1 : 0 ≤ no := by omega
  have hr2 : no ≤ 9223372036854775807 := by omega
  have hT : tb (byteA mem M ma i) (i % 8) = bitM mem M ma i := rfl
  rw [hT] at kS
  generalize bitM mem M ma i = T at kS ⊢
  generalize nowM mem M (homeA ma i) = zs at kB kS
  replace hno := hidden hno
  clear h hm hf hT hl
  go_enter Tryd.func21, Tryd.ntmps21
  go_upto_region 1 with fail
  go_quiet (fail)
  have hBq := hidden (below_drewN (Below.refl w.heap.size w) nq)
  have c2q := kc.out _ hBq.out
  go_wp2_with fail
  refine (kB.out _ hBq.out).mono ?_
  rintro ev w1 ⟨b, rfl, hL, hb, hB1⟩
  have hS := hidden (kS.out _ _ hL)
  have hB01 := hidden (hBq.out.trans (hB1.mono hBq.out.size))
  have c21 := kc.out _ hB01.out
  clear hL hb hB1 kB kS
  go_wp2_with fail
  refine (hS.out).mono ?_
  rintro ev w2 ⟨rfl, hB2⟩
  have hE := hidden (hB01.out.trans (hB2.mono hB01.out.size))
  clear hB2 hS
  go_wp2
  go_ret2
  exact ⟨rfl, hE.out⟩
set_option maxHeartbeats 1000000 in
/-- A number that is none of the Map's. -/
theorem itaken_bad {ab ma fr k : Nat} (hm : MpAt ab cb ma fr k w) (hf : Fits n blocks ma fr k) (no : Int) (hi : i64 no) (hno : ¬ ((fr : Int) ≤ no ∧ no < fr + k)) :
    Calls Tryd.prog 21 #[ptr ab, .int .i64 no] w fun e w' => e = .returned (.tuple #[.bool false, num 1]) ∧ Below w.heap.size w w' := by
  have ht := hf.top
  have c2 := hm.c2
  have c3 := hm.c3
  have hfr : (fr : Int) ≤ 9223372036854775807 := by omega
  have h1 := hi.1
  have h2 := hi.2
  clear hm hf
  by_cases hlt : no < (fr : Int)
  · replace hno := hidden hno
    go_enter Tryd.func21, Tryd.ntmps21
    go_upto_region 1 with fail
    go_quiet (fail)
    go_wp2
    go_ret2
    exact ⟨rfl, below_drewN (Below.refl w.heap.size w) nq⟩
  · have hge : (k : Int) ≤ no - (fr : Int) := by omega
    replace hno := hidden hno
    go_enter Tryd.func21, Tryd.ntmps21
    go_upto_region 1 with fail
    go_quiet (fail)
    go_wp2
    go_ret2
    exact ⟨rfl, below_drewN (Below.refl w.heap.size w) nq⟩
end
end Go.Proofs.YtildpgingcmfcaaDoor
