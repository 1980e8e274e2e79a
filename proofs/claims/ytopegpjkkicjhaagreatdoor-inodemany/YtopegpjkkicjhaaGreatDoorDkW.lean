/- A Disk as it lies in memory, and what its calls do. -/
import Derived.Test.YtopegpjkkicjhaaGreatDoorFi
import Derived.Test.YtopegpjkkicjhaaGreatDoorFl
import Derived.Test.YtopegpjkkicjhaaGreatDoorShelf
import Derived.Lib.ItoaLen
import Derived.Lib.AppendIntMem
import Derived.WalkSmall
namespace Go.Proofs.YtopegpjkkicjhaaGreatDoor
open Go.RowKit Go.Extern.Stop Go.Stop Go.Extern
set_option maxRecDepth 100000

abbrev GT (w : World) : Prop := w.cell? ⟨0, 0, none⟩ = some (typ 30)
theorem GT.below {w w' : World} (hg : GT w) (h : Below w.heap.size w w') : GT w' := (h.cell (p := ⟨0, 0, none⟩) (lt_of_cell hg)).trans hg
abbrev PT (w : World) : Prop := Lib.TabIs Tryz.prog w "internal/strconv.uint64pow10" .u64 Lib.pow10Tab
theorem ptGlobal : Tryz.prog.globalNamed "internal/strconv.uint64pow10" = some 1 := by kernel_rfl
theorem PT.lt {w : World} (h : PT w) : 1 < w.heap.size := lt_of_cell (a := ⟨1, 0, none⟩) (Lib.TabIs.cell h ptGlobal 0 (by decide))
theorem PT.below {w w' : World} (h : PT w) (hb : Below w.heap.size w w') : PT w' := var?_below hb ptGlobal h.lt h
abbrev lowG : Nat := 1 + 1
/-- What the library's own variables hold: it stays while only newer blocks are written. -/
structure Ground (w : World) : Prop where
  p : PT w
  few : lowG ≤ w.heap.size
theorem Ground.low {w w' : World} (h : Ground w) {B : Nat} (hB : lowG ≤ B) (hb : Below B w w') : Ground w' := by
  have hB' : 1 + 1 ≤ B := hB
  exact ⟨var?_below hb ptGlobal (by show 1 < B; omega) h.p, Nat.le_trans h.few hb.size⟩
theorem Ground.below {w w' : World} (h : Ground w) (hb : Below w.heap.size w w') : Ground w' := h.low h.few hb
theorem Ground.apart {w w' : World} {bs : List Nat} (h : Ground w) (ha : Apart bs w w') (hn : ∀ k, k ∈ bs → lowG ≤ k) : Ground w' := h.low (Nat.le_refl lowG) (ha.below hn h.few)

abbrev sDisk : ByteArray := ⟨#[100, 105, 115, 107]⟩
abbrev itoaB (i : Int) : ByteArray := ⟨(Lib.itoa i).toArray⟩
abbrev i64 (i : Int) : Prop := -9223372036854775808 ≤ i ∧ i ≤ 9223372036854775807

theorem wrong_num (i k : Int) (hi : i64 i) (w : World) (hG : Ground w) :
    Calls Tryz.prog 91 #[.int .i64 i, num k] w fun e w' => ∃ b, e = .returned (flt b) ∧ Chain w' [(sDisk, itoaB i)] (num k) (flt b) ∧ w.heap.size ≤ b ∧ Below w.heap.size w w' := by
  have hI := hidden (Tryz.strconv_Itoa i hi.1 hi.2 w hG.p)
  clear hG
  go_enter Tryz.func91, Tryz.ntmps91
  go_wp2_with fail
  refine (hI.out).mono ?_
  rintro ev w1 ⟨rfl, d, os, rfl⟩
  have hB1 : Below w.heap.size w (Go.Sort.grow (w.drewN d) os) := Lib.below_grow _ w (Nat.le_refl _) d os
  generalize Go.Sort.grow (w.drewN d) os = w1 at hB1 ⊢
  go_wp2_with fail
  refine (wrap_some sDisk (itoaB i) _ _ w1).mono ?_
  rintro ev w2 ⟨rfl, rfl⟩
  go_wp2
  go_ret
  exact ⟨_, rfl, Chain.alloc (w := w1) (l := []) (bot := num k) (e := num k) sDisk (itoaB i) rfl, hB1.size, hB1.alloc hB1.size _⟩

theorem chain1_apart {w w' : World} {bs : List Nat} {op nm : ByteArray} {k : Int} {b : Nat} (h : Chain w [(op, nm)] (num k) (flt b)) (ha : Apart bs w w') (hn : b ∉ bs) : Chain w' [(op, nm)] (num k) (flt b) := by
  obtain ⟨b', e', he, hb, ⟨cs, t, hs⟩, h0, h1, h2, hr⟩ := h
  have hbb : b = b' := by simpa using he
  subst hbb
  exact ⟨b, e', rfl, Nat.lt_of_lt_of_le hb ha.size, ⟨cs, t, (ha.block b hb hn).trans hs⟩, (ha.cell (p := ⟨b, 0, none⟩) hb hn).trans h0, (ha.cell (p := ⟨b, 1, none⟩) hb hn).trans h1, (ha.cell (p := ⟨b, 2, none⟩) hb hn).trans h2, hr⟩

/-- A Disk of n blocks at block d, its bytes at block g. -/
structure DiskAt (d g n : Nat) (mem : Nat → Int) (writes left : Int) (w : World) : Prop where
  blocks : ∃ cap, w.cell? ⟨d, 0, none⟩ = some (.slice (some ⟨g, 0, none⟩) n cap)
  writes : w.cell? ⟨d, 1, none⟩ = some (.int .i64 writes)
  left : w.cell? ⟨d, 2, none⟩ = some (.int .i64 left)
  free0 : w.frozen? ⟨d, 0, none⟩ = false
  free1 : w.frozen? ⟨d, 1, none⟩ = false
  free2 : w.frozen? ⟨d, 2, none⟩ = false
  bytes : ∀ k, k < n * 128 → w.cell? ⟨g, k, none⟩ = some (.int .u8 (mem k))
  free : ∀ k, k < n * 128 → w.frozen? ⟨g, k, none⟩ = false
  range : ∀ k, 0 ≤ mem k ∧ mem k ≤ 255
  apart : d ≠ g
  some : 0 < n
  few : n ≤ 2048
theorem DiskAt.lt {d g n : Nat} {mem : Nat → Int} {writes left : Int} {w : World} (h : DiskAt d g n mem writes left w) : d < w.heap.size ∧ g < w.heap.size :=
  ⟨lt_of_cell (a := ⟨d, 1, none⟩) h.writes, lt_of_cell (a := ⟨g, 0, none⟩) (h.bytes 0 (by have := h.some; omega))⟩
theorem DiskAt.apart_of {d g n : Nat} {mem : Nat → Int} {writes left : Int} {w w' : World} {bs : List Nat} (h : DiskAt d g n mem writes left w) (ha : Apart bs w w') (hd : d ∉ bs) (hg : g ∉ bs) : DiskAt d g n mem writes left w' := by
  obtain ⟨l1, l2⟩ := h.lt
  obtain ⟨cap, hb⟩ := h.blocks
  exact ⟨⟨cap, (ha.cell (p := ⟨d, 0, none⟩) l1 hd).trans hb⟩, (ha.cell (p := ⟨d, 1, none⟩) l1 hd).trans h.writes, (ha.cell (p := ⟨d, 2, none⟩) l1 hd).trans h.left, (ha.frozen (p := ⟨d, 0, none⟩) l1 hd).trans h.free0, (ha.frozen (p := ⟨d, 1, none⟩) l1 hd).trans h.free1, (ha.frozen (p := ⟨d, 2, none⟩) l1 hd).trans h.free2,
    fun k hk => (ha.cell (p := ⟨g, k, none⟩) l2 hg).trans (h.bytes k hk), fun k hk => (ha.frozen (p := ⟨g, k, none⟩) l2 hg).trans (h.free k hk), h.range, h.apart, h.some, h.few⟩
theorem DiskAt.below {d g n : Nat} {mem : Nat → Int} {writes left : Int} {w w' : World} (h : DiskAt d g n mem writes left w) (hb : Below w.heap.size w w') : DiskAt d g n mem writes left w' :=
  h.apart_of (Apart.of_below (bs := []) hb) (by simp) (by simp)

abbrev ptr (d : Nat) : Value := .pointer (some ⟨d, 0, none⟩)
theorem dead_calls {d g n : Nat} {mem : Nat → Int} {writes left : Int} {w : World} (h : DiskAt d g n mem writes left w) :
    Calls Tryz.prog 171 #[ptr d] w fun e w' => e = .returned (.bool (left == 0)) ∧ w' = w := by
  have h1 := h.left
  clear h
  go_enter Tryz.func171, Tryz.ntmps171
  go_wp2
  go_ret
  exact ⟨rfl, rfl⟩
theorem DiskAt.setLeft {d g n : Nat} {mem : Nat → Int} {writes left : Int} {w : World} (h : DiskAt d g n mem writes left w) (l : Int) : DiskAt d g n mem writes l (w.setCell ⟨d, 2, none⟩ (.int .i64 l)) := by
  obtain ⟨cap, hb⟩ := h.blocks
  have hne := h.apart
  exact ⟨⟨cap, (World.cell?_setCell_other _ _ _ _ (by intro e; simp at e)).trans hb⟩, (World.cell?_setCell_other _ _ _ _ (by intro e; simp at e)).trans h.writes, World.cell?_setCell_same' _ _ _ (by rw [h.left]; rfl), by simp [h.free0], by simp [h.free1], by simp [h.free2],
    fun k hk => (World.cell?_setCell_other _ _ _ _ (by intro e; exact hne (congrArg Addr.block e))).trans (h.bytes k hk), fun k hk => by simp [h.free k hk], h.range, hne, h.some, h.few⟩
theorem DiskAt.setWrites {d g n : Nat} {mem : Nat → Int} {writes left : Int} {w : World} (h : DiskAt d g n mem writes left w) (l : Int) : DiskAt d g n mem l left (w.setCell ⟨d, 1, none⟩ (.int .i64 l)) := by
  obtain ⟨cap, hb⟩ := h.blocks
  have hne := h.apart
  exact ⟨⟨cap, (World.cell?_setCell_other _ _ _ _ (by intro e; simp at e)).trans hb⟩, World.cell?_setCell_same' _ _ _ (by rw [h.writes]; rfl), (World.cell?_setCell_other _ _ _ _ (by intro e; simp at e)).trans h.left, by simp [h.free0], by simp [h.free1], by simp [h.free2],
    fun k hk => (World.cell?_setCell_other _ _ _ _ (by intro e; exact hne (congrArg Addr.block e))).trans (h.bytes k hk), fun k hk => by simp [h.free k hk], h.range, hne, h.some, h.few⟩
end Go.Proofs.YtopegpjkkicjhaaGreatDoor
