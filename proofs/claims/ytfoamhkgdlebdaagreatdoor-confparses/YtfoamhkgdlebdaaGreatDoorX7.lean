/- conf.take: what a line lays into an entry. -/
import Derived.Test.YtfoamhkgdlebdaaGreatDoorX6
import Derived.BigQuiet
namespace Go.Proofs.YtfoamhkgdlebdaaGreatDoor
open Go.RowKit Go.Extern.Stop Go.Stop Go.Extern
set_option maxRecDepth 100000

/-- An entry that is being read. -/
structure ESt (B : Nat) (w : World) (b : Nat) (x : En) (v : Value) : Prop where
  en : EnAt w b x v
  fz : ∀ j, w.frozen? ⟨b, j, none⟩ = false
  own : BlOwn B w v x.ex
  few : x.ex.length ≤ 8
  hb : b < B
  hs : B ≤ w.heap.size
/-- Nothing below B has turned but the block b. -/
structure Kp (B b : Nat) (w w' : World) : Prop where
  bl : Below b w w'
  kp : ∀ k, k < B → k ≠ b → w'.heap[k]? = w.heap[k]?
theorem Kp.trans {B b : Nat} {w w1 w' : World} (h : Kp B b w w1) (k : Kp B b w1 w') : Kp B b w w' := ⟨h.bl.trans k.bl, fun i h1 h2 => (k.kp i h1 h2).trans (h.kp i h1 h2)⟩
theorem Kp.below {B b : Nat} {w w' : World} (h : Below B w w') (hb : b ≤ B) : Kp B b w w' := ⟨h.mono hb, fun i h1 _ => h.block i h1⟩
theorem Kp.apart {B b g : Nat} {w w' : World} (h : Apart [g] w w') (hg : g = b ∨ B ≤ g) (hb : b ≤ B) (hs : B ≤ w.heap.size) : Kp B b w w' :=
  ⟨h.below (by rcases hg with rfl | hg <;> simp; omega) (Nat.le_trans hb hs), fun i h1 h2 => h.block i (Nat.lt_of_lt_of_le h1 hs) (by rcases hg with rfl | hg <;> simp <;> omega)⟩
section
variable {B : Nat} {w w' : World} {b : Nat} {x : En} {v : Value}
theorem ESt.below (h : ESt B w b x v) (hb : Below w.heap.size w w') : ESt B w' b x v :=
  ⟨h.en.below hb, fun j => (hb.frozen (p := ⟨b, j, none⟩) h.en.lt).trans (h.fz j), h.own.below hb, h.few, h.hb, Nat.le_trans h.hs hb.size⟩
theorem ESt.own1 (h : ESt B w b x v) (ha : Apart [b] w w') : BlOwn B w' v x.ex := h.own.keep ha (by simp; exact h.hb)
theorem ESt.put0 (h : ESt B w b x v) {t : List UInt8} (hp : Put w w' b 0 t) : ESt B w' b ⟨t, x.kn, x.ks, x.ex, x.op⟩ v :=
  ⟨⟨hp.cell h.en.c0, (hp.other (by decide)).trans h.en.c1, (hp.other (by decide)).trans h.en.c2, (hp.other (by decide)).trans h.en.c3, (hp.other (by decide)).trans h.en.c4⟩, fun j => (hp.frozen j).trans (h.fz j), h.own1 hp.ap, h.few, h.hb, Nat.le_trans h.hs hp.ap.size⟩
theorem ESt.put4 (h : ESt B w b x v) {t : List UInt8} (hp : Put w w' b 4 t) : ESt B w' b ⟨x.ver, x.kn, x.ks, x.ex, t⟩ v :=
  ⟨⟨(hp.other (by decide)).trans h.en.c0, (hp.other (by decide)).trans h.en.c1, (hp.other (by decide)).trans h.en.c2, (hp.other (by decide)).trans h.en.c3, hp.cell h.en.c4⟩, fun j => (hp.frozen j).trans (h.fz j), h.own1 hp.ap, h.few, h.hb, Nat.le_trans h.hs hp.ap.size⟩
theorem Two.cells {g j : Nat} {nb : Bl} (h : Two w w' g j nb) {u0 u1 : Value} (h0 : w.cell? ⟨g, j, none⟩ = some u0) (h1 : w.cell? ⟨g, j + 1, none⟩ = some u1) :
    w'.cell? ⟨g, j, none⟩ = some (.string (mkB nb.1)) ∧ w'.cell? ⟨g, j + 1, none⟩ = some (.string (mkB nb.2)) := by
  have e1 : (w.setCell ⟨g, j, none⟩ (.string (mkB nb.1))).cell? ⟨g, j + 1, none⟩ = some u1 := (World.cell?_setCell_other _ _ _ _ (by intro e; injection e; omega)).trans h1
  exact ⟨(cell_heap h.hp j).trans ((World.cell?_setCell_other _ _ _ _ (by intro e; injection e; omega)).trans (World.cell?_setCell_same' _ _ _ (by rw [h0]; rfl))), (cell_heap h.hp (j + 1)).trans (World.cell?_setCell_same' _ _ _ (by rw [e1]; rfl))⟩
theorem Two.other {g j k : Nat} {nb : Bl} (h : Two w w' g j nb) (h0 : k ≠ j) (h1 : k ≠ j + 1) : w'.cell? ⟨g, k, none⟩ = w.cell? ⟨g, k, none⟩ :=
  (cell_heap h.hp k).trans ((World.cell?_setCell_other _ _ _ _ (by intro e; injection e; omega)).trans (World.cell?_setCell_other _ _ _ _ (by intro e; injection e; omega)))
theorem Two.frozen {g j : Nat} {nb : Bl} (h : Two w w' g j nb) (k : Nat) : w'.frozen? ⟨g, k, none⟩ = w.frozen? ⟨g, k, none⟩ := (frozen_heap h.hp k).trans (by simp)
theorem ESt.two1 (h : ESt B w b x v) {nb : Bl} (hp : Two w w' b 1 nb) : ESt B w' b ⟨x.ver, nb.1, nb.2, x.ex, x.op⟩ v := by
  obtain ⟨c1, c2⟩ := hp.cells h.en.c1 h.en.c2
  exact ⟨⟨(hp.other (by decide) (by decide)).trans h.en.c0, c1, c2, (hp.other (by decide) (by decide)).trans h.en.c3, (hp.other (by decide) (by decide)).trans h.en.c4⟩, fun j => (hp.frozen j).trans (h.fz j), h.own1 hp.ap, h.few, h.hb, Nat.le_trans h.hs hp.ap.size⟩
theorem set_last (l : List Bl) (a c : Bl) : (l ++ [a]).set l.length c = l ++ [c] := by
  rw [List.set_append_right l.length c (Nat.le_refl _)]; simp
/-- The last of the extra ones, laid where it stands. -/
theorem ESt.last {g cap L : Nat} {a nb : Bl} {l : List Bl} (hL : l.length = L) (h : ESt B w b ⟨x.ver, x.kn, x.ks, l ++ [a], x.op⟩ (.slice (some ⟨g, 0, none⟩) (L + 1) cap)) (hg : B ≤ g) (hp : Two w w' g (L * 2) nb) :
    ESt B w' b ⟨x.ver, x.kn, x.ks, l ++ [nb], x.op⟩ (.slice (some ⟨g, 0, none⟩) (L + 1) cap) := by
  subst hL
  have hb : b ∉ [g] := by have := h.hb; simp; omega
  refine ⟨h.en.keep hp.ap hb |> fun e => ⟨e.c0, e.c1, e.c2, e.c3, e.c4⟩, fun j => (hp.ap.frozen (p := ⟨b, j, none⟩) h.en.lt hb).trans (h.fz j), ?_, by have := h.few; simpa using this, h.hb, Nat.le_trans h.hs hp.ap.size⟩
  have h2 := h.own.setAt (i := l.length) (by simp) (by simp) nb
  simp only [set_last] at h2
  exact h2.stay (fun g' e => by
    have e' : g = g' := by simpa [Value.ownBlock] using e
    subst e'
    exact hp.hp)
/-- What take leaves. -/
def TakeEnd (B b : Nat) (w w' : World) (r : Option En) : Prop := ∃ (x' : En) (v' : Value), ESt B w' b x' v' ∧ Kp B b w w' ∧ ∀ y, r = some y → y = x'
theorem TakeEnd.same (h : ESt B w b x v) (hb : Below w.heap.size w w') {r : Option En} (hr : ∀ y, r = some y → y = x) : TakeEnd B b w w' r := ⟨x, v, h.below hb, Kp.below (hb.mono h.hs) (Nat.le_of_lt h.hb), hr⟩
end
theorem take_empty (b : Nat) (w : World) :
    Calls Tryz.prog 26 #[.pointer (some ⟨b, 0, none⟩), .string (mkB [])] w fun e w' => e = .returned (.bool true) ∧ Below w.heap.size w w' := by
  have kC := hidden (cut_calls [] w (by simp))
  have hE : (mkB []).toList.isEmpty = true := by rw [mk_toList]; rfl
  go_enter Tryz.func26, Tryz.ntmps26
  go_wp2_with (refine kC.out.mono ?_; rintro e w1 ⟨⟨tt, rfl⟩, hB1⟩; replace hB1 := hidden hB1)
  go_ret
  exact ⟨rfl, hB1.out⟩
/-- The first sign of a text. -/
theorem first_run (c : UInt8) (l : List UInt8) (w : World) : (Instr.index 9 (.string (mkB (c :: l))) (.int .i64 0)).run Tryz.prog w = .ok (.int .u8 (c.toNat : Nat)) w := by
  have hs : (mkB (c :: l)).size = l.length + 1 := by rw [mk_size]; rfl
  simp [go_sem, hs]
  rfl
theorem take_note (b : Nat) (l : List UInt8) (w : World) (hl : l.length < 100000) :
    Calls Tryz.prog 26 #[.pointer (some ⟨b, 0, none⟩), .string (mkB (35 :: l))] w fun e w' => e = .returned (.bool true) ∧ Below w.heap.size w w' := by
  have kC := hidden (cut_calls (35 :: l) w (by simp; omega))
  have hE : (mkB (35 :: l)).toList.isEmpty = false := by rw [mk_toList]; rfl
  have hx := first_run 35 l
  generalize (cutSp (35 :: l)).1 = n at kC
  generalize (cutSp (35 :: l)).2 = s at kC
  go_enter Tryz.func26, Tryz.ntmps26
  go_wp2_with (refine kC.out.mono ?_; rintro e w1 ⟨⟨tt, rfl⟩, hB1⟩; replace hB1 := hidden hB1)
  go_ret
  exact ⟨rfl, hB1.out⟩
theorem none_run (c : UInt8) (h : c ≠ 35) : (((c.toNat : Nat) : Int) == 35) = false := by
  have : c.toNat ≠ 35 := fun e => h (by apply UInt8.toNat_inj.1; exact e)
  simp; omega
end Go.Proofs.YtfoamhkgdlebdaaGreatDoor
