/- Arrays beside lists of ranges. -/
import Derived.Test.YtfnfhabepadikaaKE
namespace Go.Proofs.Ytfnfhabepadikaa
open Go Go.RowKit
set_option maxRecDepth 100000

theorem Box.apart {bs : List Nat} {w w' : World} {b : Nat} {x y : Int} (h : Box w b x y) (ha : Apart bs w w') (hn : b ∉ bs) : Box w' b x y := h.heap (ha.block b h.lt hn)
theorem BAt.new {w w' : World} {g n : Nat} {f : Nat → Bool} (h : BAt w g n f) (hb : ∀ b, b < w.heap.size → b = g → w'.heap[b]? = w.heap[b]?) (hs : w.heap.size ≤ w'.heap.size) : BAt w' g n f := h.heap (hb g h.lt rfl) hs
/-- What stands between two rounds of a statement that fills an array beside a list of ranges of its own. -/
structure Fill (w : World) (g n : Nat) (e : Int) (m : Nat) (wr : World) (va : Value) (L : List Rg) : Prop where
  own : RgOwn (g + 1) wr va L
  len : L.length = m
  small : Small L e
  tell : ∃ f, BAt wr g n f ∧ Tells n f L
  bel : Below g w wr
theorem Fill.gt {w : World} {g n : Nat} {e : Int} {m : Nat} {wr : World} {va : Value} {L : List Rg} (h : Fill w g n e m wr va L) : g < wr.heap.size := by
  obtain ⟨f, hf, -⟩ := h.tell
  exact hf.lt
/-- One range is appended; the array stands still. -/
theorem Fill.push {w : World} {g n : Nat} {e : Int} {m : Nat} {wr wx : World} {va : Value} {L : List Rg} (h : Fill w g n e m wr va L) (hx : Below wr.heap.size wr wx) (hm : m < 100000) (x y : Int) :
    ∃ v' w', (Builtin.append_ #[22, 22] 22 #[va, .slice (some ⟨wx.heap.size, 0, none⟩) 1 1]).run Try.prog (wx.alloc (Obj.cells #[Value.int .i64 x, Value.int .i64 y] 25)) = .ok v' w' ∧ RgOwn (g + 1) w' v' (L ++ [(x, y)]) ∧ (∃ f, BAt w' g n f ∧ Tells n f L) ∧ Below g w w' ∧ wx.heap.size ≤ w'.heap.size ∧ ∀ b, wr.heap.size ≤ b → b < wx.heap.size → w'.heap[b]? = wx.heap[b]? := by
  have hg := h.gt
  obtain ⟨v', w', h1, h2, h3, h4, h5⟩ := h.own.push1 hx (by omega) (by rw [h.len]; omega) x y
  obtain ⟨f, hf, ht⟩ := h.tell
  refine ⟨v', w', h1, h2, ⟨f, (hf.below hx).heap (h5 g (by have := hx.size; omega) ?_) (Nat.le_trans (Nat.le_refl _) (by have := hx.size; omega)), ht⟩, h.bel.trans ((h3.mono (by omega))), h4, fun b hb1 hb2 => h5 b hb2 (h.own.fresh hb1)⟩
  intro he
  have := (h.own.row.lt g he.symm).1
  omega
/-- While the bytes of the last range are being put into the array. -/
structure Mid (w : World) (g n : Nat) (e : Int) (m : Nat) (w4 wr : World) (va : Value) (L : List Rg) (p c q : Int) : Prop where
  own : RgOwn (g + 1) w4 va (L ++ [(p, q)])
  len : L.length = m
  small : Small L e
  ap : Apart [g] w4 wr
  tell : ∃ f, BAt wr g n f ∧ TellsTo n f L p c
  bel : Below g w w4
theorem Mid.end {w : World} {g n : Nat} {e : Int} {m : Nat} {w4 wr : World} {va : Value} {L : List Rg} {p c q : Int} (h : Mid w g n e m w4 wr va L p c q) (h0 : 0 ≤ p) (hpq : p ≤ q) (hq : q ≤ e) (hc : c = q) (hg : g < w4.heap.size) : Fill w g n e (m + 1) wr va (L ++ [(p, q)]) := by
  obtain ⟨f, hf, ht⟩ := h.tell
  exact ⟨h.own.keep h.ap (by simp), by simp [h.len], h.small.push h0 hpq hq, ⟨f, hf, tells_end ht (by omega) (by omega)⟩, h.bel.trans (h.ap.below (by simp) (Nat.le_of_lt hg))⟩
theorem Mid.step {w : World} {g n : Nat} {e : Int} {m : Nat} {w4 wr : World} {va : Value} {L : List Rg} {p q : Int} {c : Nat} (h : Mid w g n e m w4 wr va L p c q) (hp : p ≤ c) (hc : c < n) : Mid w g n e m w4 (wr.setCell ⟨g, c, none⟩ (.bool true)) va L p ((c + 1 : Nat) : Int) q := by
  obtain ⟨f, hf, ht⟩ := h.tell
  exact ⟨h.own, h.len, h.small, h.ap.setCell (by simp) _, ⟨_, hf.store c hc true, tells_step ht hp⟩, h.bel⟩
theorem Mid.cell {w : World} {g n : Nat} {e : Int} {m : Nat} {w4 wr : World} {va : Value} {L : List Rg} {p q c : Int} (h : Mid w g n e m w4 wr va L p c q) (k : Nat) (hk : k < n) : ∃ b, wr.cell? ⟨g, k, none⟩ = some (.bool b) := by
  obtain ⟨f, hf, ht⟩ := h.tell
  exact ⟨_, hf.cell k hk⟩
theorem Mid.fz {w : World} {g n : Nat} {e : Int} {m : Nat} {w4 wr : World} {va : Value} {L : List Rg} {p q c : Int} (h : Mid w g n e m w4 wr va L p c q) (k : Nat) : wr.frozen? ⟨g, k, none⟩ = false := by
  obtain ⟨f, hf, ht⟩ := h.tell
  exact hf.fz k
/-- While an array is being wiped. -/
structure Wipe (w7 : World) (g n : Nat) (wr : World) (f : Nat → Bool) : Prop where
  ap : Apart [g] w7 wr
  arr : BAt wr g n f
theorem Wipe.step {w7 wr : World} {g n : Nat} {f : Nat → Bool} (h : Wipe w7 g n wr f) (c : Nat) (hc : c < n) : Wipe w7 g n (wr.setCell ⟨g, c, none⟩ (.bool false)) (fun j => if j = c then false else f j) := ⟨h.ap.setCell (by simp) _, h.arr.store c hc false⟩
theorem Wipe.drawn {w7 wr : World} {g n : Nat} {f : Nat → Bool} (h : Wipe w7 g n wr f) (m : Nat) : Wipe w7 g n (wr.drewN m) f := ⟨h.ap.drewN m, h.arr.below (bdN wr m)⟩
theorem Wipe.below {w7 wr : World} {g n : Nat} {f : Nat → Bool} (h : Wipe w7 g n wr f) (w0 : World) {B : Nat} (hb : Below B w0 w7) (hB : B ≤ g) (h7 : g < w7.heap.size) : Below B w0 wr := hb.trans (h.ap.below (by simpa using hB) (by omega))
theorem Wipe.other {w7 wr : World} {g n : Nat} {f : Nat → Bool} (h : Wipe w7 g n wr f) {b : Nat} (hb : b < w7.heap.size) (hn : g < b) (j : Nat) : wr.cell? ⟨b, j, none⟩ = w7.cell? ⟨b, j, none⟩ := h.ap.cell (p := ⟨b, j, none⟩) hb (by simp; omega)
theorem Kept.cells {base : Nat} {w : World} {v : Value} {ks : List Int} (h : Kept base w v ks) : ∃ b cap, v.ownBlock = v.ownBlock ∧ (ks ≠ [] → v = .slice (some ⟨b, 0, none⟩) ks.length cap ∧ base ≤ b ∧ b < w.heap.size) ∧ ∀ k x, ks[k]? = some x → w.cell? ⟨b, k, none⟩ = some (.int .i64 x) := by
  rcases h.part with ⟨rfl, rfl⟩ | ⟨g, cap, rfl, h1, h2, h3⟩
  · exact ⟨0, 0, rfl, fun h => absurd rfl h, fun k x hk => by simp at hk⟩
  · refine ⟨g, cap, rfl, fun _ => ⟨rfl, h1, h2⟩, fun k x hk => ?_⟩
    obtain ⟨hkl, hkx⟩ := List.getElem?_eq_some_iff.1 hk
    rw [h3 k hkl]
    simp [List.getD, hk]
end Go.Proofs.Ytfnfhabepadikaa
