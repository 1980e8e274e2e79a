/- A Disk as it lies in memory, and what its calls do. -/
import Derived.Test.YtpofmiecjkghgaaGreatDoorGBsp
import Derived.Test.YtpofmiecjkghgaaGreatDoorShelf
import Derived.Lib.ItoaLen
import Derived.Lib.AppendIntMem
import Derived.WalkSmall
import Derived.Deep.DeepCutAuto
import Derived.Laws.CopyOwn
namespace Go.Proofs.YtpofmiecjkghgaaGreatDoor
open Go.RowKit Go.Extern.Stop Go.Stop Go.Extern
set_option maxRecDepth 100000
set_option maxHeartbeats 4000000
abbrev GT (w : World) : Prop := w.cell? ⟨0, 0, none⟩ = some (typ 28)
theorem GT.below {w w' : World} (hg : GT w) (h : Below w.heap.size w w') : GT w' := (h.cell (p := ⟨0, 0, none⟩) (lt_of_cell hg)).trans hg
abbrev PT (w : World) : Prop := Lib.TabIs Tryz.prog w "internal/strconv.uint64pow10" .u64 Lib.pow10Tab
theorem ptGlobal : Tryz.prog.globalNamed "internal/strconv.uint64pow10" = some 2 := by kernel_rfl
theorem PT.lt {w : World} (h : PT w) : 2 < w.heap.size := lt_of_cell (a := ⟨2, 0, none⟩) (Lib.TabIs.cell h ptGlobal 0 (by decide))
theorem PT.below {w w' : World} (h : PT w) (hb : Below w.heap.size w w') : PT w' := var?_below hb ptGlobal h.lt h
abbrev lowG : Nat := 2 + 1
structure Ground (w : World) : Prop where
  p : PT w
  few : lowG <= w.heap.size
theorem Ground.low {w w' : World} (h : Ground w) {B : Nat} (hB : lowG <= B) (hb : Below B w w') : Ground w' := by
  have hB' : 2 + 1 <= B := hB
  exact ⟨var?_below hb ptGlobal (by show 2 < B; omega) h.p, Nat.le_trans h.few hb.size⟩
theorem Ground.below {w w' : World} (h : Ground w) (hb : Below w.heap.size w w') : Ground w' := h.low h.few hb
theorem Ground.apart {w w' : World} {bs : List Nat} (h : Ground w) (ha : Apart bs w w') (hn : ∀ k, k ∈ bs -> lowG <= k) : Ground w' := h.low (Nat.le_refl lowG) (ha.below hn h.few)
abbrev sDisk : ByteArray := ⟨#[100, 105, 115, 107]⟩
abbrev itoaB (i : Int) : ByteArray := ⟨(Lib.itoa i).toArray⟩
abbrev i64 (i : Int) : Prop := -9223372036854775808 <= i /\ i <= 9223372036854775807
theorem wrong_num (i k : Int) (hi : i64 i) (w : World) (hG : Ground w) :
    Calls Tryz.prog 51 #[.int .i64 i, num k] w fun e w' => ∃ b, e = .returned (flt b) /\ Chain w' [(sDisk, itoaB i)] (num k) (flt b) /\ w.heap.size <= b /\ Below w.heap.size w w' := by
  have hI := hidden (Tryz.strconv_Itoa i hi.1 hi.2 w hG.p)
  clear hG
  go_enter Tryz.func51, Tryz.ntmps51
  go_wp2_with fail
  refine (hI.out).mono ?_
  rintro ev w1 ⟨rfl, d, os, rfl⟩
  have hB1 : Below w.heap.size w (Go.Sort.grow (w.drewN d) os) := Lib.below_grow _ w (Nat.le_refl _) d os
  generalize Go.Sort.grow (w.drewN d) os = w1 at hB1 ⊢
  go_wp2_with fail
  refine (wrap_some sDisk (itoaB i) _ _ w1).mono ?_
  rintro ev w2 ⟨rfl, rfl⟩
  go_wp2
  go_ret
  exact ⟨_, rfl, Chain.alloc (w := w1) (l := []) (bot := num k) (e := num k) sDisk (itoaB i) rfl, hB1.size, hB1.alloc hB1.size _⟩
structure DiskAt (d g n : Nat) (mem : Nat -> Int) (writes left : Int) (w : World) : Prop where
  blocks : ∃ cap, w.cell? ⟨d, 0, none⟩ = some (.slice (some ⟨g, 0, none⟩) n cap)
  writes : w.cell? ⟨d, 1, none⟩ = some (.int .i64 writes)
  left : w.cell? ⟨d, 2, none⟩ = some (.int .i64 left)
  free0 : w.frozen? ⟨d, 0, none⟩ = false
  free1 : w.frozen? ⟨d, 1, none⟩ = false
  free2 : w.frozen? ⟨d, 2, none⟩ = false
  bytes : ∀ k, k < n * 128 -> w.cell? ⟨g, k, none⟩ = some (.int .u8 (mem k))
  free : ∀ k, k < n * 128 -> w.frozen? ⟨g, k, none⟩ = false
  range : ∀ k, 0 <= mem k /\ mem k <= 255
  apart : d ≠ g
  some : 0 < n
  few : n <= 2048
theorem DiskAt.lt {d g n : Nat} {mem : Nat -> Int} {writes left : Int} {w : World} (h : DiskAt d g n mem writes left w) : d < w.heap.size /\ g < w.heap.size :=
  ⟨lt_of_cell (a := ⟨d, 1, none⟩) h.writes, lt_of_cell (a := ⟨g, 0, none⟩) (h.bytes 0 (by have := h.some; omega))⟩
theorem DiskAt.apart_of {d g n : Nat} {mem : Nat -> Int} {writes left : Int} {w w' : World} {bs : List Nat} (h : DiskAt d g n mem writes left w) (ha : Apart bs w w') (hd : d ∉ bs) (hg : g ∉ bs) : DiskAt d g n mem writes left w' := by
  obtain ⟨l1, l2⟩ := h.lt
  obtain ⟨cap, hb⟩ := h.blocks
  exact ⟨⟨cap, (ha.cell (p := ⟨d, 0, none⟩) l1 hd).trans hb⟩, (ha.cell (p := ⟨d, 1, none⟩) l1 hd).trans h.writes, (ha.cell (p := ⟨d, 2, none⟩) l1 hd).trans h.left, (ha.frozen (p := ⟨d, 0, none⟩) l1 hd).trans h.free0, (ha.frozen (p := ⟨d, 1, none⟩) l1 hd).trans h.free1, (ha.frozen (p := ⟨d, 2, none⟩) l1 hd).trans h.free2,
    fun k hk => (ha.cell (p := ⟨g, k, none⟩) l2 hg).trans (h.bytes k hk), fun k hk => (ha.frozen (p := ⟨g, k, none⟩) l2 hg).trans (h.free k hk), h.range, h.apart, h.some, h.few⟩
theorem DiskAt.below {d g n : Nat} {mem : Nat -> Int} {writes left : Int} {w w' : World} (h : DiskAt d g n mem writes left w) (hb : Below w.heap.size w w') : DiskAt d g n mem writes left w' :=
  h.apart_of (Apart.of_below (bs := []) hb) (by simp) (by simp)
abbrev ptr (d : Nat) : Value := .pointer (some ⟨d, 0, none⟩)
theorem dead_calls {d g n : Nat} {mem : Nat -> Int} {writes left : Int} {w : World} (h : DiskAt d g n mem writes left w) :
    Calls Tryz.prog 197 #[ptr d] w fun e w' => e = .returned (.bool (left == 0)) /\ w' = w := by
  have h1 := h.left
  clear h
  go_enter Tryz.func197, Tryz.ntmps197
  go_wp2
  go_ret
  exact ⟨rfl, rfl⟩
theorem DiskAt.setLeft {d g n : Nat} {mem : Nat -> Int} {writes left : Int} {w : World} (h : DiskAt d g n mem writes left w) (l : Int) : DiskAt d g n mem writes l (w.setCell ⟨d, 2, none⟩ (.int .i64 l)) := by
  obtain ⟨cap, hb⟩ := h.blocks
  have hne := h.apart
  exact ⟨⟨cap, (World.cell?_setCell_other _ _ _ _ (by intro e; simp at e)).trans hb⟩, (World.cell?_setCell_other _ _ _ _ (by intro e; simp at e)).trans h.writes, World.cell?_setCell_same' _ _ _ (by rw [h.left]; rfl), by simp [h.free0], by simp [h.free1], by simp [h.free2],
    fun k hk => (World.cell?_setCell_other _ _ _ _ (by intro e; exact hne (congrArg Addr.block e))).trans (h.bytes k hk), fun k hk => by simp [h.free k hk], h.range, hne, h.some, h.few⟩
theorem DiskAt.setWrites {d g n : Nat} {mem : Nat -> Int} {writes left : Int} {w : World} (h : DiskAt d g n mem writes left w) (l : Int) : DiskAt d g n mem l left (w.setCell ⟨d, 1, none⟩ (.int .i64 l)) := by
  obtain ⟨cap, hb⟩ := h.blocks
  have hne := h.apart
  exact ⟨⟨cap, (World.cell?_setCell_other _ _ _ _ (by intro e; simp at e)).trans hb⟩, World.cell?_setCell_same' _ _ _ (by rw [h.writes]; rfl), (World.cell?_setCell_other _ _ _ _ (by intro e; simp at e)).trans h.left, by simp [h.free0], by simp [h.free1], by simp [h.free2],
    fun k hk => (World.cell?_setCell_other _ _ _ _ (by intro e; exact hne (congrArg Addr.block e))).trans (h.bytes k hk), fun k hk => by simp [h.free k hk], h.range, hne, h.some, h.few⟩
theorem Tryz.infoBlock : (Tryz.prog.info? 193).map (fun i => (i.zero, i.size, i.bytes)) = some (some (.agg (Array.replicate 128 (.int .u8 0))), 128, 128) := by kernel_rfl
theorem made_zeros (N k : Nat) (hk : k < N * 128) : (madeCells (Value.agg (Array.replicate 128 (.int .u8 0))).cells (N * 128))[k]? = some (.int .u8 0) := by
  have h1 : k % 128 < 128 := Nat.mod_lt _ (by decide)
  simp [madeCells, Value.cells, hk, h1]
theorem make_blocks (N : Nat) (hN : N <= 2048) (w : World) : (Instr.makeSlice 79 (.int .i64 N) (.int .i64 N)).run Tryz.prog w = .ok (.slice (some ⟨w.heap.size, 0, none⟩) N N) (w.alloc (.cells (madeCells (Value.agg (Array.replicate 128 (.int .u8 0))).cells (N * 128)) 193)) := by
  obtain ⟨i0, hi, hz0, hz1, hz2⟩ := info_parts3 Tryz.infoBlock
  have h := run_make (P := Tryz.prog) (w := w) 79 193 i0 (.agg (Array.replicate 128 (.int .u8 0))) Tryz.underlying79 hi hz0 .i64 .i64 N N (by omega) (by omega) (by rw [hz2]; omega) (by omega)
  rw [hz1] at h
  exact h
theorem new_good (N : Nat) (h16 : 16 <= N) (hN : N <= 2048) (w : World) :
    Calls Tryz.prog 29 #[.int .i64 N] w fun e w' => e = .returned (.tuple #[ptr (w.heap.size + 1), .nilIface]) /\ DiskAt (w.heap.size + 1) w.heap.size N (fun _ => 0) 0 (-1) w' /\ Below w.heap.size w w' := by
  have hmk := make_blocks N hN w
  have h1 : ¬ (N : Int) < 16 := by omega
  have h2 : ¬ (2048 : Int) < (N : Int) := by omega
  go_enter Tryz.func29, Tryz.ntmps29
  go_wp2
  go_ret2
  refine ⟨rfl, ?_, ?_⟩
  · have hc : ∀ k, k < N * 128 -> ((w.alloc (.cells (madeCells (Value.agg (Array.replicate 128 (.int .u8 0))).cells (N * 128)) 193)).cell? ⟨w.heap.size, k, none⟩ = some (.int .u8 0)) := fun k hk => (cells_new _ _ _ _).trans (made_zeros N k hk)
    exact ⟨⟨N, by simp⟩, by simp, by simp, by simp, by simp, by simp, fun k hk => (World.cell?_alloc_lt _ _ ⟨w.heap.size, k, none⟩ (by simp)).trans (hc k hk), fun k hk => by simp, fun k => by simp, by omega, by omega, hN⟩
  · exact ((Below.refl _ _).alloc (Nat.le_refl _) _).alloc (by simp) _
theorem nblocks_calls {d g n : Nat} {mem : Nat -> Int} {writes left : Int} {w : World} (h : DiskAt d g n mem writes left w) :
    Calls Tryz.prog 104 #[ptr d] w fun e w' => e = .returned (.int .i64 n) /\ w' = w := by
  obtain ⟨cap, h1⟩ := h.blocks
  clear h
  go_enter Tryz.func104, Tryz.ntmps104
  go_wp2
  go_ret
  exact ⟨rfl, rfl⟩
def reachV (n : Nat) (left i : Int) : Value := if i < 0 \/ (n : Int) <= i then num 1 else if left = 0 then num 50 else .nilIface
theorem reach_calls {d g n : Nat} {mem : Nat -> Int} {writes left : Int} {w : World} (h : DiskAt d g n mem writes left w) (i : Int) :
    Calls Tryz.prog 149 #[ptr d, .int .i64 i] w fun e w' => e = .returned (reachV n left i) /\ w' = w := by
  obtain ⟨cap, h1⟩ := h.blocks
  have hD := hidden (dead_calls h)
  clear h
  rcases Classical.em (i < 0) with hi | hi
  · have hr : reachV n left i = num 1 := by unfold reachV; rw [if_pos (Or.inl hi)]
    rw [hr]
    go_enter Tryz.func149, Tryz.ntmps149
    go_wp2
    go_ret
    exact ⟨rfl, rfl⟩
  · have hi' : 0 <= i := by omega
    rcases Classical.em ((n : Int) <= i) with hn | hn
    · have hr : reachV n left i = num 1 := by unfold reachV; rw [if_pos (Or.inr hn)]
      rw [hr]
      go_enter Tryz.func149, Tryz.ntmps149
      go_wp2
      go_ret
      exact ⟨rfl, rfl⟩
    · cases hl : (left == 0) with
      | true =>
        have hr : reachV n left i = num 50 := by unfold reachV; rw [if_neg (by omega), if_pos (by simpa using hl)]
        rw [hr]
        go_enter Tryz.func149, Tryz.ntmps149
        go_wp2_with fail
        refine (hD.out).mono ?_
        rintro ev w1 ⟨rfl, rfl⟩
        go_wp2
        go_ret
        exact ⟨rfl, rfl⟩
      | false =>
        have hr : reachV n left i = .nilIface := by unfold reachV; rw [if_neg (by omega), if_neg (by simpa using hl)]
        rw [hr]
        go_enter Tryz.func149, Tryz.ntmps149
        go_wp2_with fail
        refine (hD.out).mono ?_
        rintro ev w1 ⟨rfl, rfl⟩
        go_wp2
        go_ret
        exact ⟨rfl, rfl⟩
def memW (i : Nat) (zs : List Int) (mem : Nat -> Int) (k : Nat) : Int := if i * 128 <= k /\ k < i * 128 + 128 then zs.getD (k - i * 128) 0 else mem k
def burnt (left : Int) : Int := if 0 < left then left - 1 else left
theorem Tryz.sizeByte : (Tryz.prog.info? 5).map (·.size) = some 1 := by kernel_rfl
theorem DiskAt.wrote {d g n : Nat} {mem : Nat -> Int} {writes left : Int} {w : World} (h : DiskAt d g n mem writes left w) (i : Nat) (hi : i < n) (zs : List Int) (hz : zs.length = 128) (hr : ∀ z ∈ zs, 0 <= z /\ z <= 255) :
    DiskAt d g n (memW i zs mem) writes left (w.setCells g (i * 128) (zs.map (Value.int .u8))) := by
  obtain ⟨cap, hb⟩ := h.blocks
  have hne := h.apart
  have hlen : (zs.map (Value.int .u8)).length = 128 := by simp [hz]
  have hin : i * 128 + 128 <= n * 128 := by omega
  have ho : ∀ j : Nat, (w.setCells g (i * 128) (zs.map (Value.int .u8))).cell? ⟨d, j, none⟩ = w.cell? ⟨d, j, none⟩ := fun j => World.cell?_setCells_out g _ _ w ⟨d, j, none⟩ (fun e => absurd e hne)
  refine ⟨⟨cap, (ho 0).trans hb⟩, (ho 1).trans h.writes, (ho 2).trans h.left, by rw [World.frozen?_setCells]; exact h.free0, by rw [World.frozen?_setCells]; exact h.free1, by rw [World.frozen?_setCells]; exact h.free2, fun k hk => ?_, fun k hk => by rw [World.frozen?_setCells]; exact h.free k hk, fun k => ?_, hne, h.some, h.few⟩
  · unfold memW
    by_cases hk2 : i * 128 <= k /\ k < i * 128 + 128
    · rw [if_pos hk2]
      have := World.cell?_setCells_in g (zs.map (Value.int .u8)) (i * 128) w (fun j hj => by rw [h.bytes (i * 128 + j) (by omega)]; rfl) (k - i * 128) (by omega)
      rw [show i * 128 + (k - i * 128) = k by omega] at this
      rw [this]
      simp [List.getD, show k - i * 128 < zs.length by omega]
    · rw [if_neg hk2, World.cell?_setCells_out g _ _ w ⟨g, k, none⟩ (fun _ _ => by show k < _ \/ _ <= k; rw [hlen]; omega)]
      exact h.bytes k hk
  · unfold memW
    split
    · by_cases hk3 : k - i * 128 < zs.length
      · have : zs.getD (k - i * 128) 0 = zs[k - i * 128] := by simp [List.getD, hk3]
        rw [this]; exact hr _ (List.getElem_mem hk3)
      · have : zs.getD (k - i * 128) 0 = 0 := by simp [List.getD, hk3]
        rw [this]; omega
    · exact h.range k
theorem apart_setCells {bs : List Nat} {w : World} (g : Nat) (hg : g ∈ bs) : ∀ (vs : List Value) (o : Nat) (w' : World), Apart bs w w' -> Apart bs w (w'.setCells g o vs)
  | [], _, _, h => h
  | v :: r, o, w', h => by
    have := apart_setCells g hg r (o + 1) (w'.setCell ⟨g, o, none⟩ v) ((Apart.refl bs w').setCell (p := ⟨g, o, none⟩) hg v)
    exact h.trans this
theorem write_good {d g n : Nat} {mem : Nat -> Int} {writes left : Int} {w : World} (h : DiskAt d g n mem writes left w) (i : Nat) (hi : i < n) (v : Value) (zs : List Int) (hv : BytesAt w v zs) (hz : zs.length = 128) (hl : (left == 0) = false) (hl2 : left <= 9223372036854775807 /\ -1 <= left) (hw : 0 <= writes /\ writes < 1000000000) :
    Calls Tryz.prog 105 #[ptr d, .int .i64 i, v] w fun e w' => e = .returned .nilIface /\ DiskAt d g n (memW i zs mem) (writes + 1) (burnt left) w' /\ Apart [d, g] w w' := by
  obtain ⟨a, vcap, rfl, hr, hm, hn, hc⟩ := hv
  obtain ⟨b, off, rfl, hb, hcell⟩ := hc (by intro e; rw [e] at hz; simp at hz)
  rw [hz]
  have hR := hidden (reach_calls h i)
  have hrv : reachV n left i = .nilIface := by unfold reachV; rw [if_neg (by omega), if_neg (by simpa using hl)]
  rw [hrv] at hR
  obtain ⟨cap, h0⟩ := h.blocks
  have hcp : (Builtin.copy_ #[38, 38] 3 #[.slice (some ⟨g, i * 128, none⟩) 128 128, .slice (some ⟨b, off, none⟩) 128 vcap]).run Tryz.prog w = .ok (goInt 128) (w.setCells g (i * 128) (zs.map (Value.int .u8))) := by
    have := run_copy_cells (P := Tryz.prog) w 38 38 3 5 g (i * 128) 128 128 ⟨b, off, none⟩ 128 vcap (zs.map (Value.int .u8)) Tryz.underlying38 Tryz.sizeByte (by simp [hz]) (fun j u hu => by
      have hj : j < zs.length := by
        rcases Nat.lt_or_ge j zs.length with h | h
        · exact h
        · rw [List.getElem?_eq_none (by simpa using h)] at hu; cases hu
      rw [getD_map hj] at hu
      rw [Go.WideShapes.add_plain, hcell j hj]
      exact hu) (fun j hj => by rw [h.bytes (i * 128 + j) (by simp [hz] at hj; omega)]; rfl) (fun j hj => h.free _ (by simp [hz] at hj; omega)) (by intro u hu; obtain ⟨z, _, rfl⟩ := List.mem_map.1 hu; rfl)
    simpa [hz] using this
  have hW := h.wrote i hi zs hz hr
  have hA : Apart [d, g] w (w.setCells g (i * 128) (zs.map (Value.int .u8))) := apart_setCells g (by simp) _ _ w (Apart.refl _ w)
  have hin : (i : Int) < (n : Int) := by omega
  have hfew := h.few
  replace hW := hidden hW
  replace hA := hidden hA
  clear h hn hc hcell hr hm hrv
  go_enter Tryz.func105, Tryz.ntmps105
  go_wp2_with fail
  refine (hR.out).mono ?_
  rintro ev w1 ⟨rfl, rfl⟩
  go_upto_region 7 with fail
  generalize w1.setCells g (i * 128) (zs.map (Value.int .u8)) = w2 at hW hA ⊢
  clear hcp h0 hR
  have c1 := hW.out.writes
  have f1 := hW.out.free1
  go_upto_region 8 with fail
  have hW3 := hidden (hW.out.setWrites (writes + 1))
  have hA3 := hidden (hA.out.setCell (p := ⟨d, 1, none⟩) (by simp) (.int .i64 (writes + 1)))
  generalize w2.setCell ⟨d, 1, none⟩ (.int .i64 (writes + 1)) = w3 at hW3 hA3 ⊢
  clear c1 f1 hW hA
  have c2 := hW3.out.left
  have f2 := hW3.out.free2
  rcases Classical.em (0 < left) with hp | hp
  · have hb : burnt left = left - 1 := by unfold burnt; rw [if_pos hp]
    have hE := hidden (And.intro (hW3.out.setLeft (left - 1)) (hA3.out.setCell (p := ⟨d, 2, none⟩) (by simp) (.int .i64 (left - 1))))
    replace hb := hidden hb
    go_wp2
    go_ret
    rw [hb.out]
    exact ⟨rfl, hE.out⟩
  · have hb : burnt left = left := by unfold burnt; rw [if_neg hp]
    replace hb := hidden hb
    go_wp2
    go_ret
    rw [hb.out]
    exact ⟨rfl, hW3.out, hA3.out⟩
theorem write_bad {d g n : Nat} {mem : Nat -> Int} {writes left : Int} {w : World} (h : DiskAt d g n mem writes left w) (i k : Int) (hi : i64 i) (v : Value) (zs : List Int) (hv : BytesAt w v zs) (hG : Ground w)
    (hk : zs.length ≠ 128 /\ k = 1 \/ zs.length = 128 /\ reachV n left i = num k) :
    Calls Tryz.prog 105 #[ptr d, .int .i64 i, v] w fun e w' => ∃ b, e = .returned (flt b) /\ Chain w' [(sDisk, itoaB i)] (num k) (flt b) /\ w.heap.size <= b /\ Below w.heap.size w w' := by
  obtain ⟨a, vcap, rfl, hr, hm, hn, hc⟩ := hv
  have hW := hidden (wrong_num i k hi w hG)
  have hm' : zs.length <= 9223372036854775807 := by unfold maxLen at hm; omega
  rcases hk with ⟨hz, rfl⟩ | ⟨hz, hrv⟩
  · have hz' : ((zs.length : Int) == 128) = false := by simp; omega
    clear h hr hm hn hc hG
    go_enter Tryz.func105, Tryz.ntmps105
    go_wp2_with fail
    refine (hW.out).mono ?_
    rintro ev w1 ⟨b, rfl, hE⟩
    replace hE := hidden hE
    go_wp2
    go_ret
    exact ⟨b, rfl, hE.out⟩
  · have hR := hidden (reach_calls h i)
    rw [hrv] at hR
    rw [hz]
    clear h hr hm hn hc hG hrv
    go_enter Tryz.func105, Tryz.ntmps105
    go_wp2_with fail
    refine (hR.out).mono ?_
    rintro ev w1 ⟨rfl, rfl⟩
    go_wp2_with fail
    refine (hW.out).mono ?_
    rintro ev w2 ⟨b, rfl, hE⟩
    replace hE := hidden hE
    go_wp2
    go_ret
    exact ⟨b, rfl, hE.out⟩
def blockL (mem : Nat -> Int) (i : Nat) : List Int := (List.range 128).map fun j => mem (i * 128 + j)
theorem blockL_len (mem : Nat -> Int) (i : Nat) : (blockL mem i).length = 128 := by simp [blockL]
theorem blockL_get (mem : Nat -> Int) (i j : Nat) (hj : j < 128) : (blockL mem i)[j]? = some (mem (i * 128 + j)) := by simp [blockL, hj]
theorem wpList_load_at {P : Program} {ops : Array Oper} {rest : List Oper} {o : Oper} {a : Act} {w : World} {Q : Exit -> Act -> World -> Prop} (hgd : o.guard = none) (ty : TypeId) (x : Operand) (ho : o.op = .load ty x)
    (p : Addr) (hx : a.eval x = .pointer (some p)) (v : Value) (hl : (loadVar ty p).run P w = .ok v w) (h : wpList P ops Q rest (a.put o.dst v) w) : wpList P ops Q (o :: rest) a w :=
  wpList_plain hgd fun _ hK => by
    unfold Oper.wp execOp
    simp only [ho, hx, Instr.loadAt, Instr.sureAddr, Sem.run_bind, Sem.run_pure, Result.andThen_ok, hl]
    exact hK _ _ h
abbrev blockC (mem : Nat -> Int) (i : Nat) : Array Value := ((blockL mem i).map (Value.int .u8)).toArray
theorem load_block {d g n : Nat} {mem : Nat -> Int} {writes left : Int} {w : World} (h : DiskAt d g n mem writes left w) (i : Nat) (hi : i < n) :
    (loadVar 193 ⟨g, i * 128, none⟩).run Tryz.prog w = .ok (.agg (blockC mem i)) w := by
  have hl := run_loadCells_list (P := Tryz.prog) w ⟨g, i * 128, none⟩ ((blockL mem i).map (Value.int .u8)) (fun j v hv => by
    have hj : j < 128 := by
      rcases Nat.lt_or_ge j 128 with h | h
      · exact h
      · rw [List.getElem?_eq_none (by simp [blockL_len]; omega)] at hv; cases hv
    rw [Go.WideShapes.add_plain, h.bytes (i * 128 + j) (by omega)]
    rw [List.getElem?_map, blockL_get mem i j hj] at hv
    exact hv)
  obtain ⟨i0, hi0, hz0, hz1, hz2⟩ := info_parts3 Tryz.infoBlock
  have hagg : (isAgg 193).run Tryz.prog w = .ok true w := by
    unfold isAgg
    rw [Sem.run_bind, run_underlying Tryz.underlying193 w]
    rfl
  have hlen : ((blockL mem i).map (Value.int .u8)).length = 128 := by simp [blockL_len]
  rw [hlen] at hl
  simp [loadVar, Sem.run_bind, hagg, sizeOf, typeInfo, hi0, hz1, hl]
theorem Tryz.sizeBlock : (Tryz.prog.info? 193).map (·.size) = some 128 := by kernel_rfl
theorem read_good {d g n : Nat} {mem : Nat -> Int} {writes left : Int} {w : World} (h : DiskAt d g n mem writes left w) (i : Nat) (hi : i < n) (hl : (left == 0) = false) :
    Calls Tryz.prog 94 #[ptr d, .int .i64 i] w fun e w' => ∃ b, e = .returned (.tuple #[.slice (some ⟨b, 0, none⟩) 128 128, .nilIface]) /\ BytesAt w' (.slice (some ⟨b, 0, none⟩) 128 128) (blockL mem i) /\ w.heap.size <= b /\ (∀ k, k < 128 -> w'.frozen? ⟨b, k, none⟩ = false) /\ Below w.heap.size w w' := by
  have hR := hidden (reach_calls h i)
  have hrv : reachV n left i = .nilIface := by unfold reachV; rw [if_neg (by omega), if_neg (by simpa using hl)]
  rw [hrv] at hR
  obtain ⟨cap, h0⟩ := h.blocks
  have hin : (i : Int) < (n : Int) := by omega
  have hfew := h.few
  have hld := load_block h i hi
  have hrg := hidden h.range
  have hcs : (blockC mem i).size = 128 := by simp [blockL_len]
  have hall : (blockC mem i).all (·.oneCell') = true := by
    rw [Array.all_eq_true_iff_forall_mem]
    intro v hv
    obtain ⟨z, _, rfl⟩ := List.mem_map.1 (by simpa using hv)
    rfl
  have hget := hidden (fun (k : Nat) (hk : k < 128) => show (blockC mem i)[k]? = some (.int .u8 ((blockL mem i).getD k 0)) by
    rw [List.getElem?_toArray, getD_map (by rw [blockL_len]; exact hk)])
  clear h hrv
  generalize blockC mem i = cs at hld hcs hall hget
  replace hcs := hidden hcs
  replace hall := hidden hall
  replace hld := hidden hld
  go_enter Tryz.func94, Tryz.ntmps94
  go_wp2_with fail
  refine (hR.out).mono ?_
  rintro ev w1 ⟨rfl, rfl⟩
  have hnew : (w1.alloc (.cells (Array.replicate 128 (.int .u8 0)) 193)).heap[w1.heap.size]? = some (.cells (Array.replicate 128 (.int .u8 0)) 193 (0, 0)) := heap_alloc_new _ _
  replace hnew := hidden hnew
  go_wp2_with (first
    | (refine wpList_load_at rfl 193 _ rfl ⟨g, i * 128, none⟩ rfl (.agg cs) hld.out ?_)
    | (refine wpList_store_row rfl 193 _ _ rfl w1.heap.size cs rfl rfl 193 _ hnew.out (by rw [hcs.out]; exact Tryz.sizeBlock) (by rw [hcs.out]; simp) hall.out ?_))
  go_ret2
  have hh : ((w1.alloc (.cells Tryz.zeroCells193 193)).setRow w1.heap.size cs).heap[w1.heap.size]? = some (.cells cs 193 (0, 0)) := setRow_heap _ _ _ _ _ _ (heap_alloc_new _ _)
  refine ⟨_, rfl, ⟨_, 128, by rw [blockL_len], fun z hz => ?_, by rw [blockL_len]; decide, fun e => (by cases e), fun _ => ⟨_, _, rfl, by simp, fun k hk => ?_⟩⟩, Nat.le_refl _, fun k _ => frozen_of_row _ _ _ _ _ hh, below_setRow ((Below.refl _ _).alloc (Nat.le_refl _) _) (Nat.le_refl _) cs⟩
  · obtain ⟨j, _, rfl⟩ := List.mem_map.1 hz
    exact hrg.out _
  · rw [blockL_len] at hk
    rw [Nat.zero_add, cell_of_row _ _ _ _ _ _ hh]
    exact hget.out k hk
theorem read_bad {d g n : Nat} {mem : Nat -> Int} {writes left : Int} {w : World} (h : DiskAt d g n mem writes left w) (i k : Int) (hi : i64 i) (hG : Ground w) (hrv : reachV n left i = num k) :
    Calls Tryz.prog 94 #[ptr d, .int .i64 i] w fun e w' => ∃ b, e = .returned (.tuple #[.slice none 0 0, flt b]) /\ Chain w' [(sDisk, itoaB i)] (num k) (flt b) /\ w.heap.size <= b /\ Below w.heap.size w w' := by
  have hW := hidden (wrong_num i k hi w hG)
  have hR := hidden (reach_calls h i)
  rw [hrv] at hR
  clear h hG hrv
  go_enter Tryz.func94, Tryz.ntmps94
  go_wp2_with fail
  refine (hR.out).mono ?_
  rintro ev w1 ⟨rfl, rfl⟩
  go_wp2_with fail
  refine (hW.out).mono ?_
  rintro ev w2 ⟨b, rfl, hE⟩
  replace hE := hidden hE
  go_wp2
  go_ret2
  exact ⟨b, rfl, hE.out⟩
theorem law_is (n : Int) (hn : (n == 0) = false) (w : World) (op nm : ByteArray) (l : List (ByteArray × ByteArray)) (e : Value) (hc : Chain w ((op, nm) :: l) (num n) e) (hg : GT w) :
    Calls Tryz.prog 19 #[e, .string op, .string nm, .int .i64 n] w fun ev w' => ev = .returned (.bool true) /\ Below w.heap.size w w' := by
  have hB0 : Below w.heap.size w (w.alloc (.cells #[.pointer none] 70)) := (Below.refl _ _).alloc (Nat.le_refl _) _
  have hcH := hidden hc
  obtain ⟨b, e', rfl, hb, -, h0, h1, h2, hr⟩ := hc
  have hAs := hidden (asF (w.alloc (.cells #[.pointer none] 70)) b (.pointer none) ⟨w.heap.size, 0, none⟩ (by simp) (by simp) (hg.below hB0))
  clear h2 hr hg
  go_enter Tryz.func19, Tryz.ntmps19
  go_wp2_with fail
  refine (hAs.out).mono ?_
  rintro ev w1 ⟨rfl, W, hB1, hw1⟩
  have hsz : (w.alloc (.cells #[.pointer none] 70)).heap.size = w.heap.size + 1 := by simp
  rw [hsz] at hB1
  have hBW : Below w.heap.size w w1 := by rw [hw1]; exact (hB0.trans (hB1.mono (by omega))).setCell (Nat.le_refl _) _
  have ct : w1.cell? ⟨w.heap.size, 0, none⟩ = some (.pointer (some ⟨b, 0, none⟩)) := by
    rw [hw1]; exact World.cell?_setCell_same' _ _ _ (by rw [hB1.cell (p := ⟨w.heap.size, 0, none⟩) (by show w.heap.size < _; omega)]; simp)
  have c0 : w1.cell? ⟨b, 0, none⟩ = some (.string op) := (hBW.cell (p := ⟨b, 0, none⟩) hb).trans h0
  have c1 : w1.cell? ⟨b, 1, none⟩ = some (.string nm) := (hBW.cell (p := ⟨b, 1, none⟩) hb).trans h1
  have hI := hidden (is_chain n n w1 ((op, nm) :: l) (flt b) (hcH.out.below hBW))
  clear hw1 hB1 h0 h1 hAs hsz
  go_wp2_with (go_at_call 46; refine (hI.out).mono ?_; rintro ev w' ⟨rfl, rfl⟩)
  go_ret
  refine ⟨?_, hBW⟩
  simp
theorem law_is_nil (op nm : ByteArray) (w : World) :
    Calls Tryz.prog 19 #[.nilIface, .string op, .string nm, .int .i64 0] w fun ev w' => ev = .returned (.bool true) /\ w' = w := by
  go_enter Tryz.func19, Tryz.ntmps19
  go_wp2
  go_ret
  exact ⟨rfl, rfl⟩
structure Sys (w0 : World) (d g n : Nat) (mem : Nat -> Int) (writes left : Int) (w : World) : Prop where
  base : Ground w0
  disk : DiskAt d g n mem writes left w
  below : Below w0.heap.size w0 w
  hd : w0.heap.size <= d
  hg : w0.heap.size <= g
theorem Sys.ground {w0 : World} {d g n : Nat} {mem : Nat -> Int} {writes left : Int} {w : World} (h : Sys w0 d g n mem writes left w) : Ground w := h.base.below h.below
theorem Sys.step {w0 : World} {d g n : Nat} {mem mem' : Nat -> Int} {writes left writes' left' : Int} {w w' : World} (h : Sys w0 d g n mem writes left w) (hD : DiskAt d g n mem' writes' left' w') (ha : Apart [d, g] w w') : Sys w0 d g n mem' writes' left' w' :=
  ⟨h.base, hD, h.below.trans (ha.below (by simp; exact ⟨h.hd, h.hg⟩) h.below.size), h.hd, h.hg⟩
theorem Sys.more {w0 : World} {d g n : Nat} {mem : Nat -> Int} {writes left : Int} {w w' : World} (h : Sys w0 d g n mem writes left w) (hb : Below w.heap.size w w') : Sys w0 d g n mem writes left w' :=
  h.step (h.disk.below hb) (Apart.of_below hb)
theorem sys_new (N : Nat) (h16 : 16 <= N) (hN : N <= 2048) (w : World) (hG : Ground w) :
    Calls Tryz.prog 29 #[.int .i64 N] w fun e w' => e = .returned (.tuple #[ptr (w.heap.size + 1), .nilIface]) /\ Sys w (w.heap.size + 1) w.heap.size N (fun _ => 0) 0 (-1) w' :=
  (new_good N h16 hN w).mono fun _ _ ⟨h1, h2, h3⟩ => ⟨h1, hG, h2, h3, by omega, by omega⟩
section
variable {w0 : World} {d g n : Nat} {mem : Nat -> Int} {writes left : Int} {w : World}
theorem sys_blocks (h : Sys w0 d g n mem writes left w) : Calls Tryz.prog 104 #[ptr d] w fun e w' => e = .returned (.int .i64 n) /\ w' = w := nblocks_calls h.disk
theorem sys_write (h : Sys w0 d g n mem writes left w) (i : Nat) (hi : i < n) (v : Value) (zs : List Int) (hv : BytesAt w v zs) (hz : zs.length = 128) (hl : left ≠ 0) (hl2 : left <= 9223372036854775807 /\ -1 <= left) (hw : 0 <= writes /\ writes < 1000000000) :
    Calls Tryz.prog 105 #[ptr d, .int .i64 i, v] w fun e w' => e = .returned .nilIface /\ Sys w0 d g n (memW i zs mem) (writes + 1) (burnt left) w' /\ Apart [d, g] w w' :=
  (write_good h.disk i hi v zs hv hz (by simpa using hl) hl2 hw).mono fun _ _ ⟨h1, h2, h3⟩ => ⟨h1, h.step h2 h3, h3⟩
theorem sys_write_bad (h : Sys w0 d g n mem writes left w) (i k : Int) (hi : i64 i) (v : Value) (zs : List Int) (hv : BytesAt w v zs) (hk : zs.length ≠ 128 /\ k = 1 \/ zs.length = 128 /\ reachV n left i = num k) :
    Calls Tryz.prog 105 #[ptr d, .int .i64 i, v] w fun e w' => ∃ b, e = .returned (flt b) /\ Chain w' [(sDisk, itoaB i)] (num k) (flt b) /\ w.heap.size <= b /\ Sys w0 d g n mem writes left w' /\ Below w.heap.size w w' :=
  (write_bad h.disk i k hi v zs hv h.ground hk).mono fun _ _ ⟨b, h1, h2, h4, h3⟩ => ⟨b, h1, h2, h4, h.more h3, h3⟩
theorem sys_read (h : Sys w0 d g n mem writes left w) (i : Nat) (hi : i < n) (hl : left ≠ 0) :
    Calls Tryz.prog 94 #[ptr d, .int .i64 i] w fun e w' => ∃ b, e = .returned (.tuple #[.slice (some ⟨b, 0, none⟩) 128 128, .nilIface]) /\ BytesAt w' (.slice (some ⟨b, 0, none⟩) 128 128) (blockL mem i) /\ w.heap.size <= b /\ (∀ k, k < 128 -> w'.frozen? ⟨b, k, none⟩ = false) /\ Sys w0 d g n mem writes left w' /\ Below w.heap.size w w' :=
  (read_good h.disk i hi (by simpa using hl)).mono fun _ _ ⟨b, h1, h2, h3, h4, h5⟩ => ⟨b, h1, h2, h3, h4, h.more h5, h5⟩
end
theorem memW_same (i : Nat) (zs : List Int) (hz : zs.length = 128) (mem : Nat -> Int) : blockL (memW i zs mem) i = zs := by
  apply List.ext_getElem?
  intro j
  by_cases hj : j < 128
  · rw [blockL_get _ _ _ hj]
    unfold memW
    rw [if_pos (by omega), show i * 128 + j - i * 128 = j by omega]
    simp [List.getD, show j < zs.length by omega]
  · rw [List.getElem?_eq_none (by rw [blockL_len]; omega), List.getElem?_eq_none (by omega)]
theorem memW_other (i k : Nat) (hik : i ≠ k) (zs : List Int) (mem : Nat -> Int) : blockL (memW i zs mem) k = blockL mem k := by
  apply List.ext_getElem?
  intro j
  by_cases hj : j < 128
  · rw [blockL_get _ _ _ hj, blockL_get _ _ _ hj]
    unfold memW
    rw [if_neg (by omega)]
  · rw [List.getElem?_eq_none (by rw [blockL_len]; omega), List.getElem?_eq_none (by rw [blockL_len]; omega)]
end Go.Proofs.YtpofmiecjkghgaaGreatDoor
