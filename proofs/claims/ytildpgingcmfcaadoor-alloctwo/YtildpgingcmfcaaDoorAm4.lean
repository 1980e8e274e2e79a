/- The least index that is free; Take. -/
import Derived.Test.YtildpgingcmfcaaDoorAm3
import Derived.Shelf.Abstract
namespace Go.Proofs.YtildpgingcmfcaaDoor
open Go.RowKit Go.Extern.Stop Go.Stop Go.Extern Go.Shelf
set_option maxRecDepth 100000

section
variable {w0 : World} {d g n jb cb mb at_ most : Nat} {blocks : Int} {mem : Nat → Int} {writes left : Int} {M : Chg} {w w' : World}
/-- What holds while a Map's bits are gone through: nothing has turned but the one new cell at p. -/
structure Going (W : World) (p : Nat) (v : Value) (w : World) : Prop where
  cell : w.cell? ⟨p, 0, none⟩ = some v
  free : w.frozen? ⟨p, 0, none⟩ = false
  new : W.heap.size ≤ p
  below : Below W.heap.size W w
theorem Going.more {W : World} {p : Nat} {v : Value} (h : Going W p v w) (hb : Below w.heap.size w w') : Going W p v w' :=
  ⟨(hb.cell (p := ⟨p, 0, none⟩) (lt_of_cell h.cell)).trans h.cell, (hb.frozen (p := ⟨p, 0, none⟩) (lt_of_cell h.cell)).trans h.free, h.new, h.below.trans (hb.mono h.below.size)⟩
theorem Going.set {W : World} {p : Nat} {v : Value} (h : Going W p v w) (u : Value) : Going W p u (w.setCell ⟨p, 0, none⟩ u) :=
  ⟨World.cell?_setCell_same' _ _ _ (by rw [h.cell]; rfl), by simp [h.free], h.new, h.below.setCell h.new u⟩
theorem Going.row {W : World} {p b : Nat} {v : Value} {zs : List Int} (h : Going W p v w) (hv : ∀ z, v ≠ .int .u8 z) (u : Value) (hr : RowB w b zs) : RowB (w.setCell ⟨p, 0, none⟩ u) b zs := fun i hi => by
  have hne : b ≠ p := by
    intro e
    have h1 := hr 0 (by decide)
    rw [e, h.cell] at h1
    exact hv _ (Option.some.inj h1)
  exact (World.cell?_setCell_other _ _ _ _ (by intro e; exact hne (congrArg Addr.block e).symm)).trans (hr i hi)
theorem least1_calls {W : World} {p j : Nat} {v : Value} {T : Bool} (h : Going W p v w) :
    Calls Tryd.prog 34 #[.int .i64 j, .bool T, ptr p] w fun e w' => e = .returned (.bool T) ∧ w' = if T then w else w.setCell ⟨p, 0, none⟩ (.int .i64 j) := by
  have hc := h.cell
  have hf := h.free
  clear h
  cases T with
  | true =>
    go_enter Tryd.func34, Tryd.ntmps34
    go_wp2
    go_ret
    exact ⟨rfl, rfl⟩
  | false =>
    go_enter Tryd.func34, Tryd.ntmps34
    go_wp2
    go_ret
    exact ⟨rfl, rfl⟩
/-- What walk is handed by least. -/
theorem least_sees (h : CSt w0 d g n jb cb mb at_ most blocks mem writes left M w) (hl : left ≠ 0) {ab ma fr k : Nat} (hm : MpAt ab cb ma fr k w) (hf : Fits n blocks ma fr k) (p : Nat) :
    Sees 34 #[ptr p] ab k (fun q => nowM mem M (ma + q)) (fun j wx => Going w p (.int .i64 k) wx ∧ ∀ i, i < j → bitM mem M ma i = true) (fun j wx => Going w p (.int .i64 j) wx ∧ bitM mem M ma j = false ∧ ∀ i, i < j → bitM mem M ma i = true) where
  few := hf.k2
  ent := enters_of Tryd.func34 (by kernel_rfl) rfl
  more := fun j wx wy hI hb => ⟨hI.1.more hb, hI.2⟩
  cell := fun wx hI => (hm.below hI.1.below).c3
  bits := fun j wx hj hI => (bits_calls (h.more hI.1.below) hl (hm.below hI.1.below) hf j hj).mono fun e wy ⟨b, h1, h2, h3, h4⟩ => ⟨b, h1, h2.cell, h4⟩
  call := fun j wx b zs hj hI hr => by
    refine (least1_calls (T := bitM mem M ma j) hI.1).mono ?_
    rintro e wy ⟨rfl, rfl⟩
    cases hT : bitM mem M ma j with
    | true => exact Or.inl ⟨rfl, ⟨hI.1, fun i hi => by rcases Nat.lt_succ_iff_lt_or_eq.1 hi with h | rfl; exact hI.2 i h; exact hT⟩, hr⟩
    | false => exact Or.inr ⟨rfl, hI.1.set _, rfl, hI.2⟩
set_option maxHeartbeats 1000000 in
theorem least_calls (h : CSt w0 d g n jb cb mb at_ most blocks mem writes left M w) (hl : left ≠ 0) {ab ma fr k : Nat} (hm : MpAt ab cb ma fr k w) (hf : Fits n blocks ma fr k) :
    Calls Tryd.prog 19 #[ptr ab] w fun e w' => Below w.heap.size w w' ∧ ((∃ i, i < k ∧ e = .returned (.tuple #[.int .i64 i, .nilIface]) ∧ bitM mem M ma i = false ∧ ∀ j, j < i → bitM mem M ma j = true) ∨ (e = .returned (.tuple #[.int .i64 0, num 15]) ∧ ∀ j, j < k → bitM mem M ma j = true)) := by
  have c3 := hm.c3
  have hab := hm.lt
  have hk := hf.k2
  have hmf : ∀ (fn : Fn) (first cap : Array Value) (w : World), (Instr.makeFunc fn first cap).run Tryd.prog w = .ok (.func fn first cap) w := fun _ _ _ _ => rfl
  have hG0 : Going w w.heap.size (.int .i64 k) (w.alloc (.cells #[.int .i64 k] 3)) :=
    ⟨by simp, by simp, Nat.le_refl _, (Below.refl _ _).alloc (Nat.le_refl _) _⟩
  have hS := least_sees h hl hm hf w.heap.size
  have hW := hidden (walk_calls hS _ ⟨hG0, fun i hi => absurd hi (by omega)⟩)
  have c3x := hidden (fun (wx : World) (hx : Below w.heap.size w wx) => (hm.below hx).c3)
  clear hS h hm hf
  replace hG0 := hidden hG0
  go_enter Tryd.func19, Tryd.ntmps19
  go_wp2_with fail
  refine (hW.out).mono ?_
  rintro ev w1 ⟨rfl, (⟨hG1, hb1⟩ | ⟨i, hi, hG1, hb1, hb2⟩)⟩
  · have c1 := hG1.cell
    have c2 := c3x.out _ hG1.below
    have hB1 := hidden hG1.below
    replace hb1 := hidden hb1
    clear hG1 hW c3 hG0
    go_upto_region 5 with fail
    go_quiet (fail)
    go_wp2
    go_ret2
    exact ⟨below_drewN hB1.out nq, Or.inr ⟨rfl, hb1.out⟩⟩
  · have c1 := hG1.cell
    have c2 := c3x.out _ hG1.below
    have hB1 := hidden hG1.below
    replace hb1 := hidden hb1
    replace hb2 := hidden hb2
    clear hG1 hW c3 hG0
    have hne : ¬ (i : Int) = (k : Int) := by omega
    go_upto_region 5 with fail
    go_quiet (fail)
    go_wp2
    go_ret2
    exact ⟨below_drewN hB1.out nq, Or.inl ⟨i, hi, rfl, hb1.out, hb2.out⟩⟩
end
end Go.Proofs.YtildpgingcmfcaaDoor
