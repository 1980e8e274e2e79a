/- The least index that is free; Take. -/
import Derived.Test.YtpofmiecjkghgaaGreatDoorGAmp
import Derived.Shelf.Abstract
import Derived.Test.YtpofmiecjkghgaaGreatDoorGAtp
namespace Go.Proofs.YtpofmiecjkghgaaGreatDoor
open Go.RowKit Go.Extern.Stop Go.Stop Go.Extern Go.Shelf
set_option maxRecDepth 100000
set_option maxHeartbeats 4000000
section
variable {w0 : World} {d g n jb cb mb at_ most : Nat} {blocks : Int} {mem : Nat -> Int} {writes left : Int} {M : Chg} {w w' : World}
structure Going (W : World) (p : Nat) (v : Value) (w : World) : Prop where
  cell : w.cell? ⟨p, 0, none⟩ = some v
  free : w.frozen? ⟨p, 0, none⟩ = false
  new : W.heap.size <= p
  below : Below W.heap.size W w
theorem Going.more {W : World} {p : Nat} {v : Value} (h : Going W p v w) (hb : Below w.heap.size w w') : Going W p v w' :=
  ⟨(hb.cell (p := ⟨p, 0, none⟩) (lt_of_cell h.cell)).trans h.cell, (hb.frozen (p := ⟨p, 0, none⟩) (lt_of_cell h.cell)).trans h.free, h.new, h.below.trans (hb.mono h.below.size)⟩
theorem Going.set {W : World} {p : Nat} {v : Value} (h : Going W p v w) (u : Value) : Going W p u (w.setCell ⟨p, 0, none⟩ u) :=
  ⟨World.cell?_setCell_same' _ _ _ (by rw [h.cell]; rfl), by simp [h.free], h.new, h.below.setCell h.new u⟩
theorem Going.row {W : World} {p b : Nat} {v : Value} {zs : List Int} (h : Going W p v w) (hv : ∀ z, v ≠ .int .u8 z) (u : Value) (hr : RowB w b zs) : RowB (w.setCell ⟨p, 0, none⟩ u) b zs := fun i hi => by
  have hne : b ≠ p := by
    intro e
    have h1 := hr 0 (by decide)
    rw [e, h.cell] at h1
    exact hv _ (Option.some.inj h1)
  exact (World.cell?_setCell_other _ _ _ _ (by intro e; exact hne (congrArg Addr.block e).symm)).trans (hr i hi)
theorem least1_calls {W : World} {p j : Nat} {v : Value} {T : Bool} (h : Going W p v w) :
    Calls Tryz.prog 324 #[.int .i64 j, .bool T, ptr p] w fun e w' => e = .returned (.bool T) /\ w' = if T then w else w.setCell ⟨p, 0, none⟩ (.int .i64 j) := by
  have hc := h.cell
  have hf := h.free
  clear h
  cases T with
  | true =>
    go_enter Tryz.func324, Tryz.ntmps324
    go_wp2
    go_ret
    exact ⟨rfl, rfl⟩
  | false =>
    go_enter Tryz.func324, Tryz.ntmps324
    go_wp2
    go_ret
    exact ⟨rfl, rfl⟩
theorem least_sees (h : CSt w0 d g n jb cb mb at_ most blocks mem writes left M w) (hl : left ≠ 0) {ab ma fr k : Nat} (hm : MpAt ab cb ma fr k w) (hf : Fits n blocks ma fr k) (p : Nat) :
    Sees 324 #[ptr p] ab k (fun q => nowM mem M (ma + q)) (fun j wx => Going w p (.int .i64 k) wx /\ ∀ i, i < j -> bitM mem M ma i = true) (fun j wx => Going w p (.int .i64 j) wx /\ bitM mem M ma j = false /\ ∀ i, i < j -> bitM mem M ma i = true) where
  few := hf.k2
  ent := enters_of Tryz.func324 (by kernel_rfl) rfl
  more := fun j wx wy hI hb => ⟨hI.1.more hb, hI.2⟩
  cell := fun wx hI => (hm.below hI.1.below).c3
  bits := fun j wx hj hI => (bits_calls (h.more hI.1.below) hl (hm.below hI.1.below) hf j hj).mono fun e wy ⟨b, h1, h2, h3, h4⟩ => ⟨b, h1, h2.cell, h4⟩
  call := fun j wx b zs hj hI hr => by
    refine (least1_calls (T := bitM mem M ma j) hI.1).mono ?_
    rintro e wy ⟨rfl, rfl⟩
    cases hT : bitM mem M ma j with
    | true => exact Or.inl ⟨rfl, ⟨hI.1, fun i hi => by rcases Nat.lt_succ_iff_lt_or_eq.1 hi with h | rfl; exact hI.2 i h; exact hT⟩, hr⟩
    | false => exact Or.inr ⟨rfl, hI.1.set _, rfl, hI.2⟩
theorem least_calls (h : CSt w0 d g n jb cb mb at_ most blocks mem writes left M w) (hl : left ≠ 0) {ab ma fr k : Nat} (hm : MpAt ab cb ma fr k w) (hf : Fits n blocks ma fr k) :
    Calls Tryz.prog 310 #[ptr ab] w fun e w' => Below w.heap.size w w' /\ ((∃ i, i < k /\ e = .returned (.tuple #[.int .i64 i, .nilIface]) /\ bitM mem M ma i = false /\ ∀ j, j < i -> bitM mem M ma j = true) \/ (e = .returned (.tuple #[.int .i64 0, num 15]) /\ ∀ j, j < k -> bitM mem M ma j = true)) := by
  have c3 := hm.c3
  have hab := hm.lt
  have hk := hf.k2
  have hmf : ∀ (fn : Fn) (first cap : Array Value) (w : World), (Instr.makeFunc fn first cap).run Tryz.prog w = .ok (.func fn first cap) w := fun _ _ _ _ => rfl
  have hG0 : Going w w.heap.size (.int .i64 k) (w.alloc (.cells #[.int .i64 k] 3)) :=
    ⟨by simp, by simp, Nat.le_refl _, (Below.refl _ _).alloc (Nat.le_refl _) _⟩
  have hS := least_sees h hl hm hf w.heap.size
  have hW := hidden (walk_calls hS _ ⟨hG0, fun i hi => absurd hi (by omega)⟩)
  have c3x := hidden (fun (wx : World) (hx : Below w.heap.size w wx) => (hm.below hx).c3)
  clear hS h hm hf
  replace hG0 := hidden hG0
  go_enter Tryz.func310, Tryz.ntmps310
  go_wp2_with fail
  refine (hW.out).mono ?_
  rintro ev w1 ⟨rfl, (⟨hG1, hb1⟩ | ⟨i, hi, hG1, hb1, hb2⟩)⟩
  · have c1 := hG1.cell
    have c2 := c3x.out _ hG1.below
    have hB1 := hidden hG1.below
    replace hb1 := hidden hb1
    clear hG1 hW c3 hG0
    go_upto_region 5 with fail
    go_quiet (fail)
    go_wp2
    go_ret2
    exact ⟨below_drewN hB1.out nq, Or.inr ⟨rfl, hb1.out⟩⟩
  · have c1 := hG1.cell
    have c2 := c3x.out _ hG1.below
    have hB1 := hidden hG1.below
    replace hb1 := hidden hb1
    replace hb2 := hidden hb2
    clear hG1 hW c3 hG0
    have hne : ¬ (i : Int) = (k : Int) := by omega
    go_upto_region 5 with fail
    go_quiet (fail)
    go_wp2
    go_ret2
    exact ⟨below_drewN hB1.out nq, Or.inl ⟨i, hi, rfl, hb1.out, hb2.out⟩⟩
end
theorem anew_any (cb : Nat) (A F K : Int) (h : ((1 <= K /\ K <= 2048) /\ 0 <= A) /\ 0 <= F) (hF : F <= 9223372036854775807) (w : World) :
    Calls Tryz.prog 153 #[ptr cb, .int .i64 A, .int .i64 F, .int .i64 K] w fun e w' => e = .returned (.tuple #[ptr w.heap.size, .nilIface]) /\ w' = w.alloc (.cells #[ptr cb, .int .i64 A, .int .i64 F, .int .i64 (min (K - 1) (9223372036854775807 - F) + 1)] 218) := by
  obtain ⟨⟨⟨a1, a2⟩, a3⟩, a4⟩ := h
  go_enter Tryz.func153, Tryz.ntmps153
  go_wp2
  go_ret2
  exact ⟨rfl, rfl⟩
theorem anew_calls (cb ma fr k : Nat) (h1 : 1 <= k) (h2 : k <= 2048) (ht : fr + k <= 9223372036854775807) (w : World) :
    Calls Tryz.prog 153 #[ptr cb, .int .i64 ma, .int .i64 fr, .int .i64 k] w fun e w' => e = .returned (.tuple #[ptr w.heap.size, .nilIface]) /\ MpAt w.heap.size cb ma fr k w' /\ Below w.heap.size w w' := by
  refine (anew_any cb ma fr k (by omega) (by omega) w).mono ?_
  rintro e w' ⟨rfl, rfl⟩
  rw [show min ((k : Int) - 1) (9223372036854775807 - fr) + 1 = k by omega]
  exact ⟨rfl, ⟨by simp, by simp, by simp, by simp⟩, (Below.refl _ _).alloc (Nat.le_refl _) _⟩
section
variable {w0 : World} {d g n jb cb mb at_ most : Nat} {blocks : Int} {mem : Nat -> Int} {writes left : Int} {M : Chg} {w w' : World}
abbrev MayTurn (M : Chg) (most ma i : Nat) : Prop := (hasM (homeA ma i : Nat) M || decide (M.length < most)) = true /\ M.length <= 100000
theorem take_calls (h : CSt w0 d g n jb cb mb at_ most blocks mem writes left M w) (hl : left ≠ 0) {ab ma fr k : Nat} (hm : MpAt ab cb ma fr k w) (hf : Fits n blocks ma fr k) (hab : ab ≠ mb) (i : Nat) (hi : i < k) (hfree : bitM mem M ma i = false) (hlow : ∀ j, j < i -> bitM mem M ma j = true) (hmay : MayTurn M most ma i) :
    Calls Tryz.prog 271 #[ptr ab] w fun e w' => e = .returned (.tuple #[.int .i64 (fr + i : Nat), .nilIface]) /\ CSt w0 d g n jb cb mb at_ most blocks mem writes left (turnM mem M ma i) w' /\ Apart [mb] w w' := by
  have ht := hf.top
  have hL := hidden (least_calls h hl hm hf)
  have kT := hidden (fun (wx : World) (hx : Below w.heap.size w wx) => turn_calls (h.more hx) hl (hm.below hx) hf i hi hmay.1 hmay.2)
  have kM := hidden (fun (wx : World) (hx : Apart [mb] w wx) => (hm.keep hx (by simpa using hab)).c2)
  have hun : Hid (∀ i', i' < k -> bitM mem M ma i' = false -> (∀ j, j < i' -> bitM mem M ma j = true) -> i' = i) := hidden (fun i' _ h1 h2 => by
    rcases Nat.lt_trichotomy i i' with hlt | rfl | hgt
    · have := h2 i hlt; rw [hfree] at this; cases this
    · rfl
    · have := hlow i' hgt; rw [h1] at this; cases this)
  have hfull : Hid (¬ ∀ j, j < k -> bitM mem M ma j = true) := hidden (fun hh => by have := hh i hi; rw [hfree] at this; cases this)
  clear h hm hf hmay hfree hlow hl
  go_enter Tryz.func271, Tryz.ntmps271
  go_wp2_with fail
  refine (hL.out).mono ?_
  rintro ev w1 ⟨hB1, (⟨i', hi', rfl, h1, h2⟩ | ⟨rfl, h1⟩)⟩
  · obtain rfl := hun.out i' hi' h1 h2
    have hT := hidden (kT.out w1 hB1)
    replace hB1 := hidden hB1
    clear h1 h2 kT hL hun hfull
    go_wp2_with fail
    refine (hT.out).mono ?_
    rintro ev w2 ⟨rfl, hC2, hA2⟩
    have hA := (Apart.of_below (bs := [mb]) hB1.out).trans hA2
    have c2 := kM.out _ hA
    have hE := hidden (And.intro hC2 hA)
    clear hC2 hA2 hA hT
    go_wp2
    go_ret2
    exact ⟨by simp, hE.out⟩
  · exact absurd h1 hfull.out
theorem itaken_calls (h : CSt w0 d g n jb cb mb at_ most blocks mem writes left M w) (hl : left ≠ 0) {ab ma fr k : Nat} (hm : MpAt ab cb ma fr k w) (hf : Fits n blocks ma fr k) (i : Nat) (hi : i < k) (no : Int) (hno : no = fr + i) :
    Calls Tryz.prog 289 #[ptr ab, .int .i64 no] w fun e w' => e = .returned (.tuple #[.bool (bitM mem M ma i), .nilIface]) /\ Below w.heap.size w w' := by
  have ht := hf.top
  have hk2 := hf.k2
  have c2 := hm.c2
  have c3 := hm.c3
  have kB := hidden (fun (wx : World) (hx : Below w.heap.size w wx) => bits_calls (h.more hx) hl (hm.below hx) hf i hi)
  have kS := hidden (fun (wx : World) (b : Nat) (hL : Lie wx b (nowM mem M (homeA ma i))) => set_calls i b (by omega) (byteA mem M ma i) wx (hL.cell (spotA i) (spotA_lt i)))
  have kc := hidden (fun (wx : World) (hx : Below w.heap.size w wx) => (hm.below hx).c2)
  have hsub : no - (fr : Int) = (i : Int) := by omega
  have hge : ¬ no < (fr : Int) := by omega
  have hlt : ¬ (k : Int) <= (i : Int) := by omega
  have hr1 : 0 <= no := by omega
  have hr2 : no <= 9223372036854775807 := by omega
  have hT : tb (byteA mem M ma i) (i % 8) = bitM mem M ma i := rfl
  rw [hT] at kS
  generalize bitM mem M ma i = T at kS ⊢
  generalize nowM mem M (homeA ma i) = zs at kB kS
  replace hno := hidden hno
  clear h hm hf hT hl
  go_enter Tryz.func289, Tryz.ntmps289
  go_upto_region 1 with fail
  go_quiet (fail)
  have hBq := hidden (below_drewN (Below.refl w.heap.size w) nq)
  have c2q := kc.out _ hBq.out
  go_wp2_with fail
  refine (kB.out _ hBq.out).mono ?_
  rintro ev w1 ⟨b, rfl, hL, hb, hB1⟩
  have hS := hidden (kS.out _ _ hL)
  have hB01 := hidden (hBq.out.trans (hB1.mono hBq.out.size))
  have c21 := kc.out _ hB01.out
  clear hL hb hB1 kB kS
  go_wp2_with fail
  refine (hS.out).mono ?_
  rintro ev w2 ⟨rfl, hB2⟩
  have hE := hidden (hB01.out.trans (hB2.mono hB01.out.size))
  clear hB2 hS
  go_wp2
  go_ret2
  exact ⟨rfl, hE.out⟩
end
theorem itoa_below (no : Int) (hi : i64 no) {w wx : World} (hG : Ground w) (hx : Below w.heap.size w wx) :
    Calls Tryz.prog 79 #[.int .i64 no] wx fun e w' => e = .returned (.string (itoaB no)) /\ Below w.heap.size w w' := by
  refine (Tryz.strconv_Itoa no hi.1 hi.2 wx (hG.below hx).p).mono ?_
  rintro ev w1 ⟨rfl, d, os, rfl⟩
  exact ⟨rfl, hx.trans ((Lib.below_grow _ wx (Nat.le_refl _) d os).mono hx.size)⟩
section
variable {w0 : World} {d g n jb cb mb at_ most : Nat} {blocks : Int} {mem : Nat -> Int} {writes left : Int} {M : Chg} {w w' : World}
theorem give_calls (h : CSt w0 d g n jb cb mb at_ most blocks mem writes left M w) (hl : left ≠ 0) {ab ma fr k : Nat} (hm : MpAt ab cb ma fr k w) (hf : Fits n blocks ma fr k) (i : Nat) (hi : i < k) (no : Int) (hno : no = fr + i) (htaken : bitM mem M ma i = true) (hmay : MayTurn M most ma i) :
    Calls Tryz.prog 243 #[ptr ab, .int .i64 no] w fun e w' => e = .returned .nilIface /\ CSt w0 d g n jb cb mb at_ most blocks mem writes left (turnM mem M ma i) w' /\ Apart [mb] w w' := by
  have ht := hf.top
  have hab := hm.lt
  have hT := itaken_calls h hl hm hf i hi no hno
  rw [htaken] at hT
  replace hT := hidden hT
  have kI := hidden (fun (wx : World) (hx : Below w.heap.size w wx) => itoa_below no ⟨by omega, by omega⟩ h.sys.ground hx)
  have kT := hidden (fun (wx : World) (hx : Below w.heap.size w wx) (x : Int) (he : x = (i : Int)) => he ▸ turn_calls (h.more hx) hl (hm.below hx) hf i hi hmay.1 hmay.2)
  have kc := hidden (fun (wx : World) (hx : Below w.heap.size w wx) => (hm.below hx).c2)
  have hsub : no - (fr : Int) = (i : Int) := by omega
  have hk2 := hf.k2
  have hsub2 := hidden (show IntKind.i64.wrap (i : Int) = (i : Int) from wrap_pos _ (by omega) (by omega))
  have hr1 : 0 <= no := by omega
  have hr2 : no <= 9223372036854775807 := by omega
  generalize itoaB no = nm at kI
  generalize turnM mem M ma i = M2 at kT ⊢
  replace hno := hidden hno
  clear h hm hf hl htaken hmay
  go_enter Tryz.func243, Tryz.ntmps243
  go_wp2_with fail
  refine (hT.out).mono ?_
  rintro ev w1 ⟨rfl, hB1⟩
  have c2 := kc.out _ hB1
  have hab1 : ab < w1.heap.size := Nat.lt_of_lt_of_le hab hB1.size
  have hBd := hidden (hB1.trans ((below_drew1 w1).mono hB1.size))
  clear hT hB1
  go_upto_region 6 with fail
  go_cut [4] (fun x3 wx => x3 = .nilIface /\ CSt w0 d g n jb cb mb at_ most blocks mem writes left M2 wx /\ Apart [mb] w wx)
  case first =>
    go_region_with (first
      | (go_at_call 79; refine (kI.out _ hBd.out).mono ?_; rintro ev w3 ⟨rfl, hB3⟩; have c3 := kc.out _ hB3; have hB3 := hidden hB3)
      | (go_at_call 290; refine (kT.out _ hB3.out _ (by first | rfl | exact hsub2.out)).mono ?_; rintro ev w4 ⟨rfl, hC4, hA4⟩; have hE4 := hidden (And.intro hC4 ((Apart.of_below hB3.out).trans hA4)); clear hC4 hA4)
      | (go_at_call 111; refine (awrong_nil _ _).mono ?_; rintro ev w5 ⟨rfl, rfl⟩))
    all_goals (go_wp2; go_meet; case rel => exact ⟨rfl, hE4.out⟩)
  case rest =>
    obtain ⟨rfl, hE⟩ := hcut
    replace hE := hidden hE
    go_wp2
    go_ret
    exact ⟨rfl, hE.out⟩
end
def freeN (S : Nat -> Bool) (j : Nat) : Nat := (List.range j).countP fun i => !S i
theorem freeN_succ (S : Nat -> Bool) (j : Nat) : freeN S (j + 1) = freeN S j + (if S j then 0 else 1) := by
  unfold freeN
  rw [List.range_succ, List.countP_append]
  cases h : S j <;> simp [h]
theorem freeN_le (S : Nat -> Bool) (j : Nat) : freeN S j <= j := by
  unfold freeN
  refine Nat.le_trans List.countP_le_length ?_
  simp
section
variable {w0 : World} {d g n jb cb mb at_ most : Nat} {blocks : Int} {mem : Nat -> Int} {writes left : Int} {M : Chg} {w w' : World}
theorem free1_calls {W : World} {p j : Nat} {x : Int} (hx : 0 <= x /\ x < 1000000) {T : Bool} (h : Going W p (.int .i64 x) w) :
    Calls Tryz.prog 110 #[.int .i64 j, .bool T, ptr p] w fun e w' => e = .returned (.bool true) /\ w' = if T then w else w.setCell ⟨p, 0, none⟩ (.int .i64 (x + 1)) := by
  have hc := h.cell
  have hf := h.free
  obtain ⟨x0, x1⟩ := hx
  clear h
  cases T with
  | true =>
    go_enter Tryz.func110, Tryz.ntmps110
    go_wp2
    go_ret
    exact ⟨rfl, rfl⟩
  | false =>
    go_enter Tryz.func110, Tryz.ntmps110
    go_wp2
    go_ret
    exact ⟨rfl, rfl⟩
theorem free_sees (h : CSt w0 d g n jb cb mb at_ most blocks mem writes left M w) (hl : left ≠ 0) {ab ma fr k : Nat} (hm : MpAt ab cb ma fr k w) (hf : Fits n blocks ma fr k) (p : Nat) :
    Sees 110 #[ptr p] ab k (fun q => nowM mem M (ma + q)) (fun j wx => Going w p (.int .i64 (freeN (bitM mem M ma) j : Nat)) wx) (fun _ _ => False) where
  few := hf.k2
  ent := enters_of Tryz.func110 (by kernel_rfl) rfl
  more := fun j wx wy hI hb => hI.more hb
  cell := fun wx hI => (hm.below hI.below).c3
  bits := fun j wx hj hI => (bits_calls (h.more hI.below) hl (hm.below hI.below) hf j hj).mono fun e wy ⟨b, h1, h2, h3, h4⟩ => ⟨b, h1, h2.cell, h4⟩
  call := fun j wx b zs hj hI hr => by
    have hle := freeN_le (bitM mem M ma) j
    have hk := hf.k2
    refine (free1_calls (T := bitM mem M ma j) ⟨by omega, by omega⟩ hI).mono ?_
    rintro e wy ⟨rfl, rfl⟩
    left
    have hs := freeN_succ (bitM mem M ma) j
    cases hT : bitM mem M ma j with
    | true =>
      rw [hT] at hs
      simp only [if_true, Nat.add_zero] at hs ⊢
      rw [hs]
      exact ⟨trivial, hI, hr⟩
    | false =>
      rw [hT] at hs
      have e : ((freeN (bitM mem M ma) (j + 1) : Nat) : Int) = (freeN (bitM mem M ma) j : Nat) + 1 := by rw [hs]; simp
      rw [e]
      simp only [Bool.false_eq_true, if_false]
      exact ⟨trivial, hI.set _, hI.row (fun z h => by cases h) _ hr⟩
theorem free_calls (h : CSt w0 d g n jb cb mb at_ most blocks mem writes left M w) (hl : left ≠ 0) {ab ma fr k : Nat} (hm : MpAt ab cb ma fr k w) (hf : Fits n blocks ma fr k) :
    Calls Tryz.prog 56 #[ptr ab] w fun e w' => e = .returned (.tuple #[.int .i64 (freeN (bitM mem M ma) k : Nat), .nilIface]) /\ Below w.heap.size w w' := by
  have hmf : ∀ (fn : Fn) (first cap : Array Value) (w : World), (Instr.makeFunc fn first cap).run Tryz.prog w = .ok (.func fn first cap) w := fun _ _ _ _ => rfl
  have hG0 : Going w w.heap.size (.int .i64 0) (w.alloc (.cells #[.int .i64 0] 3)) :=
    ⟨by simp, by simp, Nat.le_refl _, (Below.refl _ _).alloc (Nat.le_refl _) _⟩
  have hS := free_sees h hl hm hf w.heap.size
  have hW := hidden (walk_calls hS _ hG0)
  clear hS h hm hf hG0
  go_enter Tryz.func56, Tryz.ntmps56
  go_wp2_with fail
  refine (hW.out).mono ?_
  rintro ev w1 ⟨rfl, (hG1 | ⟨i, hi, hG1⟩)⟩
  · have c1 := hG1.cell
    have hB1 := hidden hG1.below
    clear hG1 hW
    go_wp2
    go_ret2
    exact ⟨rfl, hB1.out⟩
  · exact hG1.elim
end
theorem idle_zero7 (at_ : Nat) : Idle at_ (fun _ => 0) := by
  show blockL (fun _ => 0) at_ = List.replicate 128 0
  apply List.ext_getElem?
  intro j
  by_cases hj : j < 128
  · rw [blockL_get _ _ _ hj, List.getElem?_replicate, if_pos hj]
  · rw [List.getElem?_eq_none (by rw [blockL_len]; omega), List.getElem?_replicate, if_neg hj]
def setS (S : Nat -> Bool) (i : Nat) (b : Bool) : Nat -> Bool := fun j => if j = i then b else S j
theorem bit_zero (ma i : Nat) : bitM (fun _ => 0) [] ma i = false := by
  unfold bitM byteA nowM
  have : ∀ (l : List Int) (q : Nat), (∀ z ∈ l, z = 0) -> l.getD q 0 = 0 := fun l q hz => by
    rw [List.getD_eq_getElem?_getD]
    cases hq : l[q]? with
    | none => rfl
    | some z => exact hz z (List.mem_of_getElem? hq)
  rw [getM_none rfl, this _ _ (fun z hz => by obtain ⟨j, -, rfl⟩ := List.mem_map.1 (show z ∈ (List.range 128).map (fun j => (0 : Int)) from hz); rfl)]
  exact tb_zero _
abbrev Keys (M : Chg) : Prop := ∀ p ∈ M, (0 : Int) <= p.1 /\ p.1 < 10
theorem Keys.may {M : Chg} (h : Keys M) (ht : Tidy M) (ma i : Nat) : MayTurn M 80 ma i := by
  have := ht.few 0 10 (by omega) h
  exact ⟨by rw [Bool.or_eq_true]; right; simp; omega, by omega⟩
theorem Keys.turn {M : Chg} (h : Keys M) (mem : Nat -> Int) {ma i : Nat} (hh : homeA ma i < 10) : Keys (turnM mem M ma i) := fun p hp => by
  rcases mem_put.1 hp with rfl | ⟨hp, -⟩
  · show (0 : Int) <= (homeA ma i : Nat) /\ ((homeA ma i : Nat) : Int) < 10
    omega
  · exact h p hp
structure ASt (w0 : World) (d g jb cb mb ab ma fr k : Nat) (S : Nat -> Bool) (w : World) : Prop where
  ex : ∃ M, CSt w0 d g 160 jb cb mb 60 80 60 (fun _ => 0) 0 (-1) M w /\ Keys M /\ ∀ i, i < k -> bitM (fun _ => 0) M ma i = S i
  mp : MpAt ab cb ma fr k w
  fit : Fits 160 60 ma fr k
  few : ma + 3 <= 10
  ne : ab ≠ mb
section
variable {w0 : World} {d g jb cb mb ab ma fr k : Nat} {S : Nat -> Bool} {w w' : World}
theorem ASt.more (h : ASt w0 d g jb cb mb ab ma fr k S w) (hb : Below w.heap.size w w') : ASt w0 d g jb cb mb ab ma fr k S w' := by
  obtain ⟨M, h1, h2, h3⟩ := h.ex
  exact ⟨⟨M, h1.more hb, h2, h3⟩, h.mp.below hb, h.fit, h.few, h.ne⟩
theorem ASt.ground (h : ASt w0 d g jb cb mb ab ma fr k S w) : Ground w := by obtain ⟨M, h1, -⟩ := h.ex; exact h1.sys.ground
theorem ASt.below (h : ASt w0 d g jb cb mb ab ma fr k S w) : Below w0.heap.size w0 w := by obtain ⟨M, h1, -⟩ := h.ex; exact h1.sys.below
theorem ASt.lts (h : ASt w0 d g jb cb mb ab ma fr k S w) : d < w.heap.size /\ g < w.heap.size /\ jb < w.heap.size /\ cb < w.heap.size /\ mb < w.heap.size /\ ab < w.heap.size /\ w0.heap.size <= w.heap.size := by
  obtain ⟨M, h1, -⟩ := h.ex
  obtain ⟨a, b, c, e, f, g⟩ := h1.lts
  exact ⟨a, b, c, e, f, h.mp.lt, g⟩
theorem ASt.congr {S' : Nat -> Bool} (h : ASt w0 d g jb cb mb ab ma fr k S w) (he : ∀ i, i < k -> S i = S' i) : ASt w0 d g jb cb mb ab ma fr k S' w := by
  obtain ⟨M, h1, h2, h3⟩ := h.ex
  exact ⟨⟨M, h1, h2, fun i hi => (h3 i hi).trans (he i hi)⟩, h.mp, h.fit, h.few, h.ne⟩
theorem ASt.turned {M : Chg} (h : ASt w0 d g jb cb mb ab ma fr k S w) (hk : Keys M) (hr : ∀ no, Row (nowM (fun _ => 0) M no)) (ht : Tidy M) (hb : ∀ j, j < k -> bitM (fun _ => 0) M ma j = S j) (i : Nat) (hi : i < k)
    (hc : CSt w0 d g 160 jb cb mb 60 80 60 (fun _ => 0) 0 (-1) (turnM (fun _ => 0) M ma i) w') (ha : Apart [mb] w w') : ASt w0 d g jb cb mb ab ma fr k (setS S i (!S i)) w' := by
  have hk2 := h.fit.k2
  have hf := h.few
  refine ⟨⟨_, hc, hk.turn _ (by unfold homeA; omega), fun j hj => ?_⟩, h.mp.keep ha (by simpa using h.ne), h.fit, h.few, h.ne⟩
  rw [bit_turn ht hr, hb j hj]
  unfold setS
  by_cases e : j = i
  · subst e; simp
  · simp [e]
theorem ASt.take (h : ASt w0 d g jb cb mb ab ma fr k S w) (i : Nat) (hi : i < k) (hfree : S i = false) (hlow : ∀ j, j < i -> S j = true) :
    Calls Tryz.prog 271 #[ptr ab] w fun e w' => e = .returned (.tuple #[.int .i64 (fr + i : Nat), .nilIface]) /\ ASt w0 d g jb cb mb ab ma fr k (setS S i true) w' /\ Apart [mb] w w' := by
  obtain ⟨M, h1, h2, h3⟩ := h.ex
  refine (take_calls h1 (by decide) h.mp h.fit h.ne i hi ((h3 i hi).trans hfree) (fun j hj => (h3 j (by omega)).trans (hlow j hj)) (h2.may h1.map.tidy ma i)).mono ?_
  rintro e w' ⟨rfl, hc, ha⟩
  have := h.turned h2 h1.rows h1.map.tidy h3 i hi hc ha
  rw [hfree] at this
  exact ⟨rfl, this, ha⟩
theorem freeN_congr {S T : Nat -> Bool} : ∀ (k : Nat), (∀ i, i < k -> S i = T i) -> freeN S k = freeN T k
  | 0, _ => rfl
  | k + 1, h => by rw [freeN_succ, freeN_succ, freeN_congr k (fun i hi => h i (by omega)), h k (by omega)]
end
end Go.Proofs.YtpofmiecjkghgaaGreatDoor
