/- 'Apart bs w w'': of what lay in the world w nothing but the blocks that are listed has turned. -/
import Derived.WalkKit
import Derived.WalkSmall
import Derived.Deep.QuietTactic
namespace Go.Proofs.Ytfnfhabepadikaa
open Go.RowKit

structure Apart (bs : List Nat) (w w' : World) : Prop where
  os : w'.os = w.os
  tape : w'.tape = w.tape
  output : w'.output = w.output
  size : w.heap.size ≤ w'.heap.size
  block : ∀ k, k < w.heap.size → k ∉ bs → w'.heap[k]? = w.heap[k]?

theorem Apart.refl (bs : List Nat) (w : World) : Apart bs w w := ⟨rfl, rfl, rfl, Nat.le_refl _, fun _ _ _ => rfl⟩
theorem Apart.trans {bs : List Nat} {a b c : World} (h : Apart bs a b) (k : Apart bs b c) : Apart bs a c :=
  ⟨k.os.trans h.os, k.tape.trans h.tape, k.output.trans h.output, Nat.le_trans h.size k.size, fun i hi hn => (k.block i (Nat.lt_of_lt_of_le hi h.size) hn).trans (h.block i hi hn)⟩
/-- Blocks that came later need not be listed. -/
theorem Apart.trans' {bs cs : List Nat} {a b c : World} (h : Apart bs a b) (k : Apart cs b c) (hn : ∀ x, x ∈ cs → a.heap.size ≤ x := by simp) : Apart bs a c :=
  ⟨k.os.trans h.os, k.tape.trans h.tape, k.output.trans h.output, Nat.le_trans h.size k.size, fun i hi hm => (k.block i (Nat.lt_of_lt_of_le hi h.size) fun hc => absurd (hn i hc) (by omega)).trans (h.block i hi hm)⟩
/-- A list may grow, and blocks that are new need not stand in it. -/
theorem Apart.mono {bs cs : List Nat} {w w' : World} (h : Apart bs w w') (hs : ∀ k, k ∈ bs → k < w.heap.size → k ∈ cs) : Apart cs w w' :=
  ⟨h.os, h.tape, h.output, h.size, fun k hk hn => h.block k hk fun hm => hn (hs k hm hk)⟩
theorem Apart.of_below {bs : List Nat} {w w' : World} (h : Below w.heap.size w w') : Apart bs w w' := ⟨h.os, h.tape, h.output, h.size, fun k hk _ => h.block k hk⟩
theorem Apart.below {bs : List Nat} {w w' : World} (h : Apart bs w w') {B : Nat} (hs : ∀ k, k ∈ bs → B ≤ k) (hB : B ≤ w.heap.size) : Below B w w' :=
  ⟨h.os, h.tape, h.output, h.size, fun k hk => h.block k (Nat.lt_of_lt_of_le hk hB) fun hm => absurd (hs k hm) (by omega)⟩
theorem Apart.setCell {bs : List Nat} {w w' : World} (h : Apart bs w w') {p : Addr} (hp : p.block ∈ bs) (u : Value) : Apart bs w (w'.setCell p u) :=
  ⟨h.os, h.tape, h.output, by simpa [World.setCell] using h.size, fun k hk hn => (Below.heap_setCell _ _ _ _ (fun e => hn (by rw [e]; exact hp))).trans (h.block k hk hn)⟩
theorem Apart.setNew {bs : List Nat} {w w' : World} (h : Apart bs w w') {p : Addr} (hp : w.heap.size ≤ p.block) (u : Value) : Apart bs w (w'.setCell p u) :=
  ⟨h.os, h.tape, h.output, by simpa [World.setCell] using h.size, fun k hk hn => (Below.heap_setCell _ _ _ _ (by omega)).trans (h.block k hk hn)⟩
theorem Apart.alloc {bs : List Nat} {w w' : World} (h : Apart bs w w') (o : Obj) : Apart bs w (w'.alloc o) :=
  h.trans (Apart.of_below ((Below.refl _ _).alloc (Nat.le_refl _) o))
theorem Apart.drew {bs : List Nat} {w w' : World} (h : Apart bs w w') : Apart bs w w'.drew := ⟨h.os, h.tape, h.output, h.size, h.block⟩
theorem Apart.drewN {bs : List Nat} {w w' : World} (h : Apart bs w w') (n : Nat) : Apart bs w (w'.drewN n) := h.trans (Apart.of_below (below_drewN (Below.refl _ _) n))
theorem Apart.cell {bs : List Nat} {w w' : World} (h : Apart bs w w') {p : Addr} (hp : p.block < w.heap.size) (hn : p.block ∉ bs) : w'.cell? p = w.cell? p := World.cell?_of_block (w := w) (h.block p.block hp hn)
theorem Apart.frozen {bs : List Nat} {w w' : World} (h : Apart bs w w') {p : Addr} (hp : p.block < w.heap.size) (hn : p.block ∉ bs) : w'.frozen? p = w.frozen? p := World.frozen?_of_block (w := w) (h.block p.block hp hn)
end Go.Proofs.Ytfnfhabepadikaa
