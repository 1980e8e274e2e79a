/- release: the closure, and all of it. -/
import Derived.Test.YtdkpffpjbpfdnaaGreatDoorGIi
import Derived.Test.YtdkpffpjbpfdnaaGreatDoorGIg
import Derived.Test.YtdkpffpjbpfdnaaGreatDoorGIh
namespace Go.Proofs.YtdkpffpjbpfdnaaGreatDoor
open Go.RowKit Go.Extern.Stop Go.Stop Go.Extern Go.Maps Go.Sort Go.Shelf
set_option maxRecDepth 100000

section
variable {E : TE} {mem : Nat → Int} {writes : Int} {M : Chg} {w w' : World}
set_option maxHeartbeats 6000000 in
theorem release1_ok {p o q : Nat} {id : Nat} {xa : Option Addr} {xc : Nat} {ks : List Int} {base : Nat} (cp : w.cell? ⟨p, 0, none⟩ = some (ptr E.tb)) (co : w.cell? ⟨o, 0, none⟩ = some (.int .i64 (id : Int))) (cq : w.cell? ⟨q, 2, none⟩ = some (.slice xa ks.length xc)) (hne : p ≠ E.mb ∧ o ≠ E.mb ∧ q ≠ E.mb)
    (h : E.St mem writes M w) (ok : E.Ok) (hx : Kept base w (.slice xa ks.length xc) ks) (hmb : E.mb < base) (hid : 1 ≤ id ∧ id ≤ E.tn) (hl : ks.length ≤ 33) (hnd : ks.Nodup) (hmine : ∀ z ∈ ks, ∃ i, i < E.k ∧ z = E.fr + (i : Int) ∧ bitM mem M E.ma i = true) :
    Calls Tryz.prog 127 #[ptr p, ptr o, ptr q] w fun e w' => e = .returned .nilIface ∧ ∃ M3 M', (∀ no, nowM mem M3 no = if no = E.ta + id - 1 then recL 0 0 [] else nowM mem M no) ∧ E.Gave mem M3 M' ks ∧ E.St mem writes M' w' ∧ Apart [E.mb] w w' := by
  have hlt := h.t.lt
  have kk := hidden (fun (wx : World) (hx : SAp E.mb w wx) => show wx.cell? ⟨p, 0, none⟩ = some (ptr E.tb) ∧ wx.cell? ⟨o, 0, none⟩ = some (.int .i64 (id : Int)) ∧ wx.cell? ⟨q, 2, none⟩ = some (.slice xa ks.length xc) ∧ wx.cell? ⟨E.tb, 0, none⟩ = some (ptr E.cb) from
    ⟨(hx.out.cell (p := ⟨p, 0, none⟩) (lt_of_cell cp) (by simpa using hne.1)).trans cp, (hx.out.cell (p := ⟨o, 0, none⟩) (lt_of_cell co) (by simpa using hne.2.1)).trans co, (hx.out.cell (p := ⟨q, 2, none⟩) (lt_of_cell cq) (by simpa using hne.2.2)).trans cq, (hx.out.cell (p := ⟨E.tb, 0, none⟩) hlt (by simpa using ok.tbm)).trans h.t.c0⟩)
  have hvC := hx.toC hmb
  have htn := ok.tn
  have hta := ok.ta
  have hSd := h.more (below_drew1 w)
  have kHm := hidden (ihome_calls hSd.t id hid.1 (by omega) (by omega))
  have kWr := hidden (iwritten_calls (w := w.drew) 0 0 (by omega) (by omega) (v := .slice none 0 0) (ks := []) ⟨none, 0, rfl, by simp, by decide, fun _ => rfl, fun e => absurd rfl e⟩ (fun z hz => by cases hz))
  have kC1 := hidden (fun (wx : World) (hx : Below w.drew.heap.size w.drew wx) (b : Nat) (hb : OwnB w.drew.heap.size wx b 128 128 (recL 0 0 [])) => show Calls Tryz.prog 62 #[ptr E.cb, .int .i64 ((E.ta + id - 1 : Nat) : Int), .int .i64 0, .slice (some ⟨b, 0, none⟩) 128 128] wx fun e w' => e = .returned .nilIface ∧ ∃ M', E.St mem writes M' w' ∧ Apart [E.mb] wx w' ∧ ∀ i, nowM mem M' i = if i = E.ta + id - 1 then recL 0 0 [] else nowM mem M i from by
    have hr := recL_row (kind := 0) (size := 0) (by omega) (by omega) []
    refine ((hSd.more hx).write ok (ok.recs id hid.1 hid.2) 0 _ _ hb.bytes (by rw [hr.1]; omega)).mono ?_
    rintro e w' ⟨rfl, M', q1, q2, q3⟩
    refine ⟨rfl, M', q1, q2, fun i => ?_⟩
    rw [q3 i]
    congr 1
    unfold layL
    rw [List.take_zero, List.nil_append, Nat.zero_add, hr.1, List.drop_of_length_le (by rw [((hSd.more hx).row _).1]; omega), List.append_nil])
  have kG0 := hidden (fun (w4 : World) (M3 : Chg) (hs : ∀ no, nowM mem M3 no = if no = E.ta + id - 1 then recL 0 0 [] else nowM mem M no) (h4 : E.St mem writes M3 w4) (hA4 : Apart [E.mb] w w4) => show Calls Tryz.prog 128 #[ptr E.tb, .slice xa ks.length xc] w4 fun e w' => e = .returned .nilIface ∧ ∃ M', E.Gave mem M3 M' ks ∧ E.St mem writes M' w' ∧ Apart [E.mb] w4 w' from by
    refine igive_calls h4 ok (hvC w4 hA4) (fun b' off ⟨n', c'', e⟩ => ?_) (by omega) hnd (fun z hz => ?_)
    · obtain ⟨rfl, -, -⟩ := Value.slice.inj e
      have := (hx.row.lt b' rfl).1
      omega
    · obtain ⟨i, i1, i2, i3⟩ := hmine z hz
      refine ⟨i, i1, i2, ?_⟩
      rw [bit_same (E := E) (M := M) (by rw [hs, if_neg (ok.hr i id i1 hid.1 hid.2)])]
      exact i3)
  have hS0 : SAp E.mb w w.drew := SAp.mk (Apart.of_below (bs := [E.mb]) (below_drew1 w))
  clear h hx hvC hmine hnd hSd cp co cq
  replace ok := hidden ok
  generalize ks.length = KL at *
  go_enter Tryz.func127, Tryz.ntmps127
  go_upto_region 1 with fail
  go_cut [4] (fun a wx => a = .nilIface ∧ ∃ M3, E.St mem writes M3 wx ∧ Apart [E.mb] w wx ∧ ∀ no, nowM mem M3 no = if no = E.ta + id - 1 then recL 0 0 [] else nowM mem M no)
  case first =>
    refine wp_region_held_drew (S := SAp E.mb w) (by kernel_rfl) hS0 ?_
    intro _
    refine wpAnyH_take (i := 0) (v := ?_) rfl (by kernel_rfl) (by kernel_rfl) (by kernel_rfl) (fun _ _ _ h => h) (Or.inl ⟨by rfl, ?_⟩) hS0 ?_
    rotate_left
    · intro w hw; have x0 := kk.out _ hw; have m0 := x0.1; clear x0; clear hw; go_simp; try (with_reducible rfl)
    refine wpAnyH_take (i := 1) (v := ?_) rfl (by kernel_rfl) (by kernel_rfl) (by kernel_rfl) (fun _ _ _ h => h) (Or.inl ⟨by rfl, ?_⟩) hS0 ?_
    rotate_left
    · intro w hw; clear hw; go_simp; try (with_reducible rfl)
    refine wpAnyH_take (i := 2) (v := ?_) rfl (by kernel_rfl) (by kernel_rfl) (by kernel_rfl) (fun _ _ _ h => h) (Or.inl ⟨by rfl, ?_⟩) hS0 ?_
    rotate_left
    · intro w hw; clear hw; go_simp; try (with_reducible rfl)
    refine wpAnyH_take (i := 3) (v := ?_) rfl (by kernel_rfl) (by kernel_rfl) (by kernel_rfl) (fun _ _ _ h => h) (Or.inl ⟨by rfl, ?_⟩) hS0 ?_
    rotate_left
    · intro w hw; have x0 := kk.out _ hw; have m0 := x0.2.2.2; clear x0; clear hw; go_simp; try (with_reducible rfl)
    refine wpAnyH_take (i := 4) (v := ?_) rfl (by kernel_rfl) (by kernel_rfl) (by kernel_rfl) (fun _ _ _ h => h) (Or.inl ⟨by rfl, ?_⟩) hS0 ?_
    rotate_left
    · intro w hw; have x0 := kk.out _ hw; have m0 := x0.1; clear x0; clear hw; go_simp; try (with_reducible rfl)
    refine wpAnyH_take (i := 5) (v := ?_) rfl (by kernel_rfl) (by kernel_rfl) (by kernel_rfl) (fun _ _ _ h => h) (Or.inl ⟨by rfl, ?_⟩) hS0 ?_
    rotate_left
    · intro w hw; have x0 := kk.out _ hw; have m0 := x0.2.1; clear x0; clear hw; go_simp; try (with_reducible rfl)
    refine wpAnyH_take (i := 7) (v := ?_) rfl (by kernel_rfl) (by kernel_rfl) (by kernel_rfl) (fun _ _ _ h => h) (Or.inl ⟨by rfl, ?_⟩) hS0 ?_
    rotate_left
    · intro w hw; clear hw; go_simp; try (with_reducible rfl)
    refine wpAnyH_ready (rs := [6]) (by kernel_rfl) (by simp) ?_
    refine AllReadyH.cons rfl (fun K hK => ?_) AllReadyH.nil
    go_simp
    go_wp2_with (go_at_call 63; refine (kHm.out).mono ?_; rintro ev w5 ⟨rfl, rfl⟩)
    refine hK.out _ _ hS0 (fun _ => ?_)
    clear hK K
    refine wpAnyH_ready (rs := [8]) (by kernel_rfl) (by simp) ?_
    refine AllReadyH.cons rfl (fun K hK => ?_) AllReadyH.nil
    go_simp
    go_wp2_with (go_at_call 64; refine (kWr.out).mono ?_; rintro ev w6 ⟨b6, rfl, hO6, hB6⟩)
    refine hK.out _ _ (SAp.more hS0 (Apart.of_below hB6)) (fun hSn1 => ?_)
    clear hK K
    refine wpAnyH_ready (rs := [9]) (by kernel_rfl) (by simp) ?_
    refine AllReadyH.cons rfl (fun K hK => ?_) AllReadyH.nil
    go_simp
    go_wp2_with (go_at_call 62; refine (kC1.out _ hB6 _ hO6).mono ?_; rintro ev w7 ⟨rfl, M7, q1, q2, q3⟩)
    refine hK.out _ _ (SAp.more hSn1 q2) (fun hSn2 => ?_)
    clear hK K
    refine wpAnyH_ready (rs := [10]) (by kernel_rfl) (by simp) ?_
    refine AllReadyH.cons rfl (fun K hK => ?_) AllReadyH.nil
    go_simp
    refine hK.out _ _ hSn2 (fun _ => ?_)
    clear hK K
    refine wpAnyH_done (by kernel_rfl) ?_ _
    have hE7 := hidden (And.intro q1 (And.intro (hSn2).out q3))
    clear q1 q2 q3 hO6 hB6
    go_wp2
    go_meet
    case rel => exact ⟨rfl, M7, hE7.out⟩
  case rest =>
    rename World => w4
    obtain ⟨rfl, M3, g2, g3, g1⟩ := hcut
    have kG := hidden (kG0.out w4 M3 g1 g2 g3)
    have x4 := kk.out _ (SAp.mk g3)
    have d0 := x4.1
    have d2 := x4.2.2.1
    have hE3 := hidden (And.intro g1 g3)
    clear g1 g2 g3 x4
    go_wp2_with fail
    refine (kG.out).mono ?_
    rintro ev w5 ⟨rfl, M5, r1, r2, r3⟩
    have hE5 := hidden (And.intro r1 (And.intro r2 (hE3.out.2.trans r3)))
    clear r1 r2 r3
    go_wp2
    go_ret
    exact ⟨rfl, M3, M5, hE3.out.1, hE5.out⟩
theorem ent_release1 : ∀ (args : Array Value) (w : World), (callFunc 127 args).run Tryz.prog w = .ok (.enter 127 args) w := enters_of Tryz.func127 (by kernel_rfl) rfl
end
end Go.Proofs.YtdkpffpjbpfdnaaGreatDoor
/- release and Free, by the state of a statement. -/
namespace Go.Proofs.YtdkpffpjbpfdnaaGreatDoor
open Go.RowKit Go.Extern.Stop Go.Stop Go.Extern Go.Maps Go.Sort Go.Shelf
set_option maxRecDepth 100000

section
variable {E : TE} {mem : Nat → Int} {writes : Int} {M : Chg} {w w' : World}
set_option maxHeartbeats 4000000 in
theorem irelease_ok {id K S : Nat} {ks : List Int} (h : E.St mem writes M w) (ok : E.Ok) (hid : 1 ≤ id ∧ id ≤ E.tn) (hl : ks.length ≤ 33) (hnd : ks.Nodup) (hmine : ∀ z ∈ ks, ∃ i, i < E.k ∧ z = E.fr + (i : Int) ∧ bitM mem M E.ma i = true)
    (kL : ∀ wx, Below w.heap.size w wx → Calls Tryz.prog 125 #[ptr E.tb, .int .i64 id] wx fun e w' => ∃ v, e = .returned (.tuple #[nodeV K S v, .nilIface]) ∧ Kept wx.heap.size w' v ks ∧ Below wx.heap.size wx w') :
    Calls Tryz.prog 68 #[ptr E.tb, .int .i64 id] w fun e w' => e = .returned .nilIface ∧ ∃ M3 M', (∀ no, nowM mem M3 no = if no = E.ta + id - 1 then recL 0 0 [] else nowM mem M no) ∧ E.Gave mem M3 M' ks ∧ E.St mem writes M' w' ∧ Apart [E.mb] w w' := by
  have hmf : ∀ (fn : Fn) (first cap : Array Value) (w : World), (Instr.makeFunc fn first cap).run Tryz.prog w = .ok (.func fn first cap) w := fun _ _ _ _ => rfl
  have hmbw := h.lts.2.2.2.2.1
  obtain ⟨w2, hw2, hB2, c0, c1, hs2⟩ : ∃ w2, (w.alloc (.cells #[ptr E.tb] 25)).alloc (.cells #[.int .i64 (id : Int)] 3) = w2 ∧ Below w.heap.size w w2 ∧ w2.cell? ⟨w.heap.size, 0, none⟩ = some (ptr E.tb) ∧ w2.cell? ⟨w.heap.size + 1, 0, none⟩ = some (.int .i64 (id : Int)) ∧ w2.heap.size = w.heap.size + 2 := by
    generalize e1 : w.alloc (.cells #[ptr E.tb] 25) = W1
    have a1 : W1.cell? ⟨w.heap.size, 0, none⟩ = some (ptr E.tb) := by rw [← e1]; simp
    have s1 : W1.heap.size = w.heap.size + 1 := by rw [← e1]; simp
    have hB1 : Below w.heap.size w W1 := by rw [← e1]; exact (Below.refl _ _).alloc (Nat.le_refl _) _
    have hBx : Below W1.heap.size W1 (W1.alloc (.cells #[.int .i64 (id : Int)] 3)) := (Below.refl _ _).alloc (Nat.le_refl _) _
    refine ⟨_, rfl, hB1.trans (hBx.mono hB1.size), (hBx.cell (p := ⟨w.heap.size, 0, none⟩) (lt_of_cell a1)).trans a1, by rw [← s1]; simp, by simp [s1]⟩
  have kL2 := hidden (kL w2 hB2)
  have kW := hidden (fun (w5 : World) (q : Nat) (xa : Option Addr) (xc : Nat) (hB5 : Below w2.heap.size w2 w5) (hq : w2.heap.size ≤ q) (cq : w5.cell? ⟨q, 2, none⟩ = some (.slice xa ks.length xc)) (hK5 : Kept w2.heap.size w5 (.slice xa ks.length xc) ks) => show Calls Tryz.prog 126 #[ptr E.tb, .func (.func 127) #[] #[ptr w.heap.size, ptr (w.heap.size + 1), ptr q]] w5 fun e w' => e = .returned .nilIface ∧ ∃ M3 M', (∀ no, nowM mem M3 no = if no = E.ta + id - 1 then recL 0 0 [] else nowM mem M no) ∧ E.Gave mem M3 M' ks ∧ E.St mem writes M' w' ∧ Apart [E.mb] w w' from by
    have hB05 := hB2.trans (hB5.mono hB2.size)
    refine whole_ok ent_release1 (h.more hB05) ok (fun wx hxx => ?_)
    have hB := hB05.trans (hxx.mono hB05.size)
    have hB2x := hB5.trans (hxx.mono hB5.size)
    refine (release1_ok (base := w2.heap.size) ((hB2x.cell (p := ⟨w.heap.size, 0, none⟩) (lt_of_cell c0)).trans c0) ((hB2x.cell (p := ⟨w.heap.size + 1, 0, none⟩) (lt_of_cell c1)).trans c1) ((hxx.cell (p := ⟨q, 2, none⟩) (lt_of_cell cq)).trans cq) ⟨by omega, by omega, by omega⟩ (h.more hB) ok (hK5.below hxx) (by omega) hid hl hnd hmine).mono ?_
    rintro e w' ⟨rfl, M3, M', q1, q2, q3, q4⟩
    exact ⟨rfl, M3, M', q1, q2, q3, (Apart.of_below hB).trans q4⟩)
  have hs2' := hidden hs2
  clear h ok hid hl hnd hmine kL hs2
  go_enter Tryz.func68, Tryz.ntmps68
  go_wp2_with fail
  refine (kL2.out).mono ?_
  rintro ev w3 ⟨v, rfl, hK, hB3⟩
  obtain ⟨w5, hw5, hB5, hN5⟩ : ∃ w5, w3.alloc (.cells #[.int .i64 K, .int .i64 S, v] 110) = w5 ∧ Below w3.heap.size w3 w5 ∧ NdAt w5 w3.heap.size K S v := ⟨_, rfl, (Below.refl _ _).alloc (Nat.le_refl _) _, ⟨by simp, by simp, by simp⟩⟩
  obtain ⟨xa, xc, rfl, -⟩ := hK.form
  have kW5 := hidden (kW.out w5 w3.heap.size xa xc (hB3.trans (hB5.mono hB3.size)) hB3.size hN5.c2 (hK.below hB5))
  have d0 := ((hB3.trans (hB5.mono hB3.size)).cell (p := ⟨w.heap.size, 0, none⟩) (lt_of_cell c0)).trans c0
  clear hK hB3 hB5 hN5 kW kL2 hw2 c0 c1
  go_wp2_with fail
  refine (kW5.out).mono ?_
  rintro ev w7 ⟨rfl, hq⟩
  replace hq := hidden hq
  go_wp2
  go_ret
  exact ⟨rfl, hq.out⟩
end
/-- Free hands on what release tells. -/
theorem iFree_calls {tb : Nat} {id : Int} (hi : i64 id) {w : World} {Q : World → Prop} (hQ : ∀ w1 w2, Q w1 → Below w1.heap.size w1 w2 → Q w2) (hG : ∀ w1, Q w1 → Ground w1)
    (kW : Calls Tryz.prog 68 #[ptr tb, .int .i64 id] w fun e w' => e = .returned .nilIface ∧ Q w') :
    Calls Tryz.prog 15 #[ptr tb, .int .i64 id] w fun e w' => e = .returned .nilIface ∧ Q w' := by
  replace kW := hidden kW
  replace hi := hidden hi
  go_enter Tryz.func15, Tryz.ntmps15
  go_wp2_with fail
  refine (kW.out).mono ?_
  rintro ev w1 ⟨rfl, hq⟩
  have kA := hidden (about_nil id hi.out w1 (hG _ hq))
  replace hq := hidden hq
  go_wp2_with fail
  refine (kA.out).mono ?_
  rintro ev w2 ⟨rfl, hB2⟩
  have hE := hidden (hQ _ _ hq.out hB2)
  clear hB2
  go_wp2
  go_ret
  exact ⟨rfl, hE.out⟩
theorem release_err {tb : Nat} {id m : Int} {w : World} (kL : ∀ wx, Below w.heap.size w wx → Calls Tryz.prog 125 #[ptr tb, .int .i64 id] wx fun e w' => e = .returned (.tuple #[nodeV 0 0 (.slice none 0 0), num m]) ∧ Below wx.heap.size wx w') :
    Calls Tryz.prog 68 #[ptr tb, .int .i64 id] w fun e w' => e = .returned (num m) ∧ Below w.heap.size w w' := by
  have hBx : Below w.heap.size w ((w.alloc (.cells #[ptr tb] 25)).alloc (.cells #[.int .i64 id] 3)) := ((Below.refl _ _).alloc (Nat.le_refl _) _).alloc (by simp) _
  have kL2 := hidden (kL _ hBx)
  go_enter Tryz.func68, Tryz.ntmps68
  go_wp2_with fail
  refine (kL2.out).mono ?_
  rintro ev w3 ⟨rfl, hB3⟩
  have hE0 := hBx.trans (hB3.mono hBx.size)
  have hE := hidden (hE0.alloc hE0.size (.cells #[.int .i64 0, .int .i64 0, .slice none 0 0] 110))
  clear hB3 hE0 hBx
  go_wp2
  go_ret
  exact ⟨rfl, hE.out⟩
theorem iFree_num {tb : Nat} {id : Int} (hi : i64 id) {n : Int} {w : World} (hG : Ground w)
    (kW : Calls Tryz.prog 68 #[ptr tb, .int .i64 id] w fun e w' => e = .returned (num n) ∧ Below w.heap.size w w') :
    Calls Tryz.prog 15 #[ptr tb, .int .i64 id] w fun e w' => ∃ b, e = .returned (flt b) ∧ Chain w' [(sInode, itoaB id)] (num n) (flt b) ∧ Below w.heap.size w w' := by
  replace kW := hidden kW
  replace hi := hidden hi
  go_enter Tryz.func15, Tryz.ntmps15
  go_wp2_with fail
  refine (kW.out).mono ?_
  rintro ev w1 ⟨rfl, hB1⟩
  have kA := hidden (about_num id hi.out n w1 (hG.below hB1))
  replace hB1 := hidden hB1
  go_wp2_with fail
  refine (kA.out).mono ?_
  rintro ev w2 ⟨b, rfl, hc, hB2⟩
  have hE := hidden (And.intro hc (hB1.out.trans (hB2.mono hB1.out.size)))
  clear hc hB2
  go_wp2
  go_ret
  exact ⟨b, rfl, hE.out⟩
section
variable {E : TE} {mem : Nat → Int} {M : Chg} {N : Nat → Nd} {D : Nat → List Int}
theorem Ino.release (h : Ino E mem M N D) (ok : E.Ok) {M6 M' : Chg} {id : Nat} (h1 : 1 ≤ id) (h2 : id ≤ E.tn)
    (hs : ∀ no, nowM mem M6 no = if no = E.ta + id - 1 then recL 0 0 [] else nowM mem M no) (hG : E.Gave mem M6 M' (N id).list) :
    Ino E mem M' (upd N id ⟨0, 0, []⟩) (upd D id []) ∧ freeN (bitM mem M' E.ma) E.k = freeN (bitM mem M E.ma) E.k + (N id).list.length := by
  have keep : ∀ no, (∀ i, i < E.k → no ≠ homeA E.ma i) → no ≠ E.ta + id - 1 → nowM mem M' no = nowM mem M no := fun no q1 q2 => by rw [hG.same no q1, hs no, if_neg q2]
  have hbit6 : ∀ i, i < E.k → bitM mem M6 E.ma i = bitM mem M E.ma i := fun i hi => bit_same (by rw [hs, if_neg (ok.hr i id hi h1 h2)])
  have hother : ∀ b, 1 ≤ b → b ≤ E.tn → ∀ z ∈ (N b).list, nowM mem M' z.toNat = nowM mem M z.toNat := fun b b1 b2 z hz => by
    obtain ⟨i, i1, i2, i3⟩ := h.mine b b1 b2 z hz
    exact keep _ (fun j hj e => ok.hd j i hj i1 (by omega)) (fun e => ok.dr i id i1 h1 h2 (by omega))
  refine ⟨⟨fun b b1 b2 => ?_, fun b b1 b2 => ?_, fun b b1 b2 z hz => ?_, fun a b a1 a2 b1 b2 hab z hz => ?_, fun b b1 b2 h9 => ?_, fun b b1 b2 => ?_⟩, ?_⟩
  · by_cases hb : b = id
    · subst hb
      rw [upd_same]
      refine ⟨⟨Or.inl ⟨rfl, rfl, rfl⟩, by simp, by simp [blk], by simp⟩, ?_⟩
      rw [hG.same _ (fun i hi e => ok.hr i b hi b1 b2 e.symm), hs, if_pos rfl]
    · rw [upd_other _ _ hb]
      refine ⟨(h.says b b1 b2).1, ?_⟩
      rw [keep _ (fun i hi e => ok.hr i b hi b1 b2 e.symm) (by omega)]
      exact (h.says b b1 b2).2
  · by_cases hb : b = id
    · subst hb; rw [upd_same]; exact List.nodup_nil
    · rw [upd_other _ _ hb]; exact h.nodup b b1 b2
  · by_cases hb : b = id
    · subst hb; rw [upd_same] at hz; cases hz
    · rw [upd_other _ _ hb] at hz
      obtain ⟨i, i1, i2, i3⟩ := h.mine b b1 b2 z hz
      refine ⟨i, i1, i2, ?_⟩
      rw [hG.bits i i1, hbit6 i i1, i3, decide_eq_false (fun hm => h.apart b id b1 b2 h1 h2 hb z hz (by rw [show z = ((E.fr + i : Nat) : Int) by omega]; exact hm))]
      rfl
  · by_cases ha : a = id
    · subst ha; rw [upd_same] at hz; cases hz
    · rw [upd_other _ _ ha] at hz
      by_cases hb : b = id
      · subst hb; rw [upd_same]; intro hm; cases hm
      · rw [upd_other _ _ hb]; exact h.apart a b a1 a2 b1 b2 hab z hz
  · by_cases hb : b = id
    · subst hb; rw [upd_same] at h9; simp at h9
    · rw [upd_other _ _ hb] at h9 ⊢
      rw [hother b b1 b2 _ (getD_mem (by omega))]
      exact h.rest b b1 b2 h9
  · by_cases hb : b = id
    · subst hb
      rw [upd_same, upd_same]
      rfl
    · rw [upd_other _ _ hb, upd_other _ _ hb, ← h.data b b1 b2]
      refine bytesF_congr (fun j hj => ?_)
      have hbo := (h.says b b1 b2).1
      have hix : idxN (j / 128) < (N b).list.length := by
        have := idxN_lt hbo.2.1 (q := j / 128) (by omega)
        have := hbo.2.2.1
        omega
      unfold byteF
      rw [hother b b1 b2 _ (getD_mem hix)]
  · rw [hG.free, freeN_congr (T := bitM mem M E.ma) E.k hbit6]
end
section
variable {E : TE} {K : Nat → Nat} {D : Nat → List Int} {f lim : Nat} {w w' : World}
theorem S8.free (ok : E.Ok) (h : S8 E K D f lim w) {id n : Nat} (h1 : 1 ≤ id) (h2 : id ≤ E.tn) (hk : K id ≠ 0) (hn : blk ((D id).length : Int) = (n : Int)) :
    Calls Tryz.prog 15 #[ptr E.tb, .int .i64 id] w fun e w' => e = .returned .nilIface ∧ S8 E (upd K id 0) (upd D id []) (f + n) lim w' ∧ Apart [E.mb] w w' := by
  obtain ⟨mem, wr, M, N, q1, q2, q3, q4, q5, q6⟩ := h
  have hd : (D id).length = (N id).size := by rw [← q2.data id h1 h2, bytesF_len]
  have hx := (q2.says id h1 h2).1
  have htn := ok.tn
  have hbr := blk_range ((N id).size : Int)
  have hll := hx.2.2.1
  rw [hd] at hn
  refine iFree_calls (id := (id : Int)) ⟨by omega, by omega⟩ (Q := fun w' => S8 E (upd K id 0) (upd D id []) (f + n) lim w' ∧ Apart [E.mb] w w') ?_ ?_ ?_
  · rintro w1 w2 ⟨r1, r2⟩ hB
    exact ⟨r1.more hB, r2.trans (Apart.of_below hB)⟩
  · rintro w1 ⟨r1, -⟩
    exact r1.ground
  refine (irelease_ok (K := (N id).kind) (S := (N id).size) (ks := (N id).list) q1 ok ⟨h1, h2⟩ (by omega) (q2.nodup id h1 h2) (q2.mine id h1 h2) (fun wx hx => (q1.more hx).load ok q2 id h1 h2 (by rw [q5]; exact hk))).mono ?_
  rintro e w' ⟨rfl, M3, M', r1, r2, r3, r4⟩
  obtain ⟨t1, t2⟩ := q2.release ok h1 h2 r1 r2
  refine ⟨rfl, ⟨mem, wr, M', _, r3, t1, q3, q4, fun j => ?_, by omega⟩, r4⟩
  by_cases hj : j = id
  · subst hj; rw [upd_same, upd_same]
  · rw [upd_other _ _ hj, upd_other _ _ hj]; exact q5 j
end
end Go.Proofs.YtdkpffpjbpfdnaaGreatDoor
/- What is refused: a Make where none is free, a Free of what is free; InodeMany's own lengths. -/
namespace Go.Proofs.YtdkpffpjbpfdnaaGreatDoor
open Go.RowKit Go.Extern.Stop Go.Stop Go.Extern Go.Maps Go.Sort Go.Shelf
set_option maxRecDepth 100000

section
variable {E : TE} {K : Nat → Nat} {D : Nat → List Int} {f lim : Nat} {w w' : World}
theorem S8.make_none (ok : E.Ok) (h : S8 E K D f lim w) (kind : Int) (hk : kind = 1 ∨ kind = 2) (hall : ∀ id, 1 ≤ id → id ≤ E.tn → K id ≠ 0) :
    Calls Tryz.prog 13 #[ptr E.tb, .int .i64 kind] w fun e w' => ∃ b, e = .returned (.tuple #[.int .i64 0, flt b]) ∧ Chain w' [(sInode, sNone)] (num 16) (flt b) ∧ Below w.heap.size w w' := by
  obtain ⟨mem, wr, M, N, q1, q2, q3, q4, q5, q6⟩ := h
  exact Go.Proofs.YtdkpffpjbpfdnaaGreatDoor.make_none q1 ok q2.says kind hk (fun id a b => by rw [q5]; exact hall id a b)
theorem S8.load_none (ok : E.Ok) (h : S8 E K D f lim w) {id : Nat} (h1 : 1 ≤ id) (h2 : id ≤ E.tn) (hk : K id = 0) :
    Calls Tryz.prog 125 #[ptr E.tb, .int .i64 id] w fun e w' => e = .returned (.tuple #[nodeV 0 0 (.slice none 0 0), num 11]) ∧ Below w.heap.size w w' := by
  obtain ⟨mem, wr, M, N, q1, q2, q3, q4, q5, q6⟩ := h
  refine load_err (fun wx hx => used_none (S := ((N id).size : Int)) (l := (N id).list.take 9) (fun wy hy => ?_))
  have hr := ((q1.more hx).more hy).record ok q2.says id h1 h2
  have e : (N id).kind = 0 := by rw [q5]; exact hk
  rw [e] at hr
  exact hr
theorem S8.free_none (ok : E.Ok) (h : S8 E K D f lim w) {id : Nat} (h1 : 1 ≤ id) (h2 : id ≤ E.tn) (hk : K id = 0) :
    Calls Tryz.prog 15 #[ptr E.tb, .int .i64 id] w fun e w' => ∃ b, e = .returned (flt b) ∧ Chain w' [(sInode, itoaB id)] (num 11) (flt b) ∧ Below w.heap.size w w' := by
  have htn := ok.tn
  exact iFree_num ⟨by omega, by omega⟩ h.ground (release_err (fun wx hx => S8.load_none ok (h.more hx) h1 h2 hk))
end
/-- A list of numbers that came in. -/
def IntsIn (w : World) (v : Value) (zs : List Int) : Prop :=
  ∃ a cap, v = .slice a zs.length cap ∧ zs.length ≤ maxLen ∧ (zs ≠ [] → ∃ b off, a = some ⟨b, off, none⟩ ∧ b < w.heap.size ∧ ∀ k, k < zs.length → w.cell? ⟨b, off + k, none⟩ = some (.int .i64 (zs.getD k 0)))
theorem IntsIn.below {w w' : World} {v : Value} {zs : List Int} (h : IntsIn w v zs) (hb : Below w.heap.size w w') : IntsIn w' v zs := by
  obtain ⟨a, cap, e, hl, hc⟩ := h
  refine ⟨a, cap, e, hl, fun hne => ?_⟩
  obtain ⟨b, off, ea, hlt, hk⟩ := hc hne
  exact ⟨b, off, ea, Nat.lt_of_lt_of_le hlt hb.size, fun k hk2 => (hb.cell (p := ⟨b, off + k, none⟩) hlt).trans (hk k hk2)⟩
/-- How long the text of inode i is. -/
def lnN (zs : List Int) (i : Nat) : Nat := if i < zs.length then (bits .and .i64 (zs.getD i 0) 511).toNat else 50 * i
theorem lnN_le (zs : List Int) (i : Nat) (h : i ≤ 6) : lnN zs i ≤ 511 := by
  unfold lnN
  split
  · have h2 : 0 ≤ bits .and .i64 (zs.getD i 0) 511 ∧ bits .and .i64 (zs.getD i 0) 511 ≤ 511 := and_low (zs.getD i 0) 511 (by omega)
    omega
  · omega
end Go.Proofs.YtdkpffpjbpfdnaaGreatDoor
