/- Size of what is free; sorted lists without a number twice; which numbers were seen. -/
import Derived.Test.YtdkpffpjbpfdnaaGreatDoorGIj
import Derived.Test.YtdkpffpjbpfdnaaGreatDoorGIk
import Derived.Deep.CutBlock
import Derived.Deep.DeepCutAuto
namespace Go.Proofs.YtdkpffpjbpfdnaaGreatDoor
open Go.RowKit Go.Extern.Stop Go.Stop Go.Extern Go.Maps Go.Sort Go.Shelf
set_option maxRecDepth 100000

theorem sortL_perm (ks : List Int) : (sortL ks).Perm ks := List.mergeSort_perm _ _
theorem sortL_len (ks : List Int) : (sortL ks).length = ks.length := (sortL_perm ks).length_eq
theorem sortL_mem (ks : List Int) (z : Int) : z ∈ sortL ks ↔ z ∈ ks := (sortL_perm ks).mem_iff
theorem sortL_lt (ks : List Int) (hnd : ks.Nodup) : (sortL ks).Pairwise (· < ·) := by
  have h1 : (sortL ks).Pairwise (fun x y => decide (x ≤ y) = true) := List.pairwise_mergeSort (fun a b c h1 h2 => by simp at *; omega) (fun a b => by simp; omega) ks
  have h2 : (sortL ks).Nodup := (sortL_perm ks).nodup_iff.2 hnd
  refine (h1.and h2).imp ?_
  rintro a b ⟨h3, h4⟩
  have h5 : a ≤ b := by simpa using h3
  omega
theorem sortL_step (ks : List Int) (hnd : ks.Nodup) (i : Nat) (h0 : 0 < i) (hi : i < ks.length) : (sortL ks).getD (i - 1) 0 < (sortL ks).getD i 0 := by
  have hl := sortL_len ks
  have := List.pairwise_iff_getElem.1 (sortL_lt ks hnd) (i - 1) i (by omega) (by omega) (by omega)
  rw [List.getD_eq_getElem?_getD, List.getD_eq_getElem?_getD, List.getElem?_eq_getElem (by omega), List.getElem?_eq_getElem (by omega)]
  exact this
theorem sortL_at (ks : List Int) (i : Nat) (hi : i < ks.length) : (sortL ks).getD i 0 ∈ ks := by
  have hl := sortL_len ks
  rw [List.getD_eq_getElem?_getD, List.getElem?_eq_getElem (by omega)]
  exact (sortL_mem ks _).1 (List.getElem_mem _)
/-- Is a number one of an inode's ahead of id? -/
def seenA (N : Nat → Nd) : Nat → Nat → Bool
  | 0, _ => false
  | j + 1, b => seenA N j b || (decide (1 ≤ j) && decide ((b : Int) ∈ (N j).list))
theorem seenA_not (N : Nat → Nd) (b : Nat) : ∀ id, (∀ j, 1 ≤ j → j < id → (b : Int) ∉ (N j).list) → seenA N id b = false
  | 0, _ => rfl
  | j + 1, h => by
    unfold seenA
    rw [seenA_not N b j (fun i a c => h i a (by omega))]
    by_cases hj : 1 ≤ j
    · rw [decide_eq_false (h j hj (by omega))]; simp
    · rw [decide_eq_false hj]; rfl
/-- The numbers of the inodes ahead of id, and the first i of its own. -/
def seenF (N : Nat → Nd) (id i : Nat) : Nat → Bool := fun b => seenA N id b || decide ((b : Int) ∈ (sortL (N id).list).take i)
theorem seenF_start (N : Nat → Nd) (b : Nat) : seenF N 1 0 b = false := by simp [seenF, seenA]
theorem seenF_step (N : Nat → Nd) (id i : Nat) (hi : i < (N id).list.length) (X : Nat) (hX : (X : Int) = (sortL (N id).list).getD i 0) : seenF N id (i + 1) = fun b => if b = X then true else seenF N id i b := by
  have hl := sortL_len (N id).list
  have e : (sortL (N id).list).take (i + 1) = (sortL (N id).list).take i ++ [(X : Int)] := by
    rw [List.take_succ_eq_append_getElem (by omega), hX, List.getD_eq_getElem?_getD, List.getElem?_eq_getElem (by omega)]
    rfl
  funext b
  unfold seenF
  rw [e]
  by_cases hb : b = X
  · subst hb
    simp
  · rw [if_neg hb]
    have : ¬ (b : Int) = (X : Int) := by omega
    simp [this]
theorem seenF_next (N : Nat → Nd) (id : Nat) (h1 : 1 ≤ id) : seenF N id (N id).list.length = seenF N (id + 1) 0 := by
  funext b
  unfold seenF
  rw [List.take_of_length_le (Nat.le_of_eq (sortL_len _)), List.take_zero]
  conv => rhs; unfold seenA
  have e : decide ((b : Int) ∈ sortL (N id).list) = decide ((b : Int) ∈ (N id).list) := decide_eq_decide.2 (sortL_mem (N id).list (b : Int))
  rw [e, decide_eq_true h1]
  simp
theorem seenF_new (N : Nat → Nd) (id i : Nat) (hi : i < (N id).list.length) (hnd : (N id).list.Nodup) (hap : ∀ j, 1 ≤ j → j < id → ∀ z ∈ (N id).list, z ∉ (N j).list) (X : Nat) (hX : (X : Int) = (sortL (N id).list).getD i 0) : seenF N id i X = false := by
  unfold seenF
  have hl := sortL_len (N id).list
  rw [seenA_not N X id (fun j a1 a2 => hap j a1 a2 _ (by rw [hX]; exact sortL_at _ i hi)), decide_eq_false]
  · rfl
  · intro h
    obtain ⟨k, hk, e⟩ := List.mem_iff_getElem.1 h
    rw [List.length_take] at hk
    rw [List.getElem_take] at e
    have := List.pairwise_iff_getElem.1 (sortL_lt _ hnd) k i (by omega) (by omega) (by omega)
    rw [e, hX, List.getD_eq_getElem?_getD, List.getElem?_eq_getElem (by omega)] at this
    simp at this
/-- How many blocks the inodes ahead of id have. -/
def usedN (N : Nat → Nd) : Nat → Nat
  | 0 => 0
  | j + 1 => usedN N j + (if 1 ≤ j then (N j).list.length else 0)
section
variable {E : TE} {mem : Nat → Int} {writes : Int} {M : Chg} {w w' : World} {N : Nat → Nd} {D : Nat → List Int}
set_option maxHeartbeats 1000000 in
theorem Ino.size_none (h : E.St mem writes M w) (ok : E.Ok) (hI : Ino E mem M N D) {id : Nat} (h1 : 1 ≤ id) (h2 : id ≤ E.tn) (hk : (N id).kind = 0) :
    Calls Tryz.prog 74 #[ptr E.tb, .int .i64 id] w fun e w' => ∃ b, e = .returned (.tuple #[.int .i64 0, flt b]) ∧ Chain w' [(sInode, itoaB id)] (num 11) (flt b) ∧ Below w.heap.size w w' := by
  have htn := ok.tn
  have hG := hidden h.c.sys.ground
  have kU := hidden (used_none (tb := E.tb) (id := (id : Int)) (S := ((N id).size : Int)) (l := (N id).list.take 9) (w := w) (fun wy hy => by
    have hr := (h.more hy).record ok hI.says id h1 h2
    rw [hk] at hr
    exact hr))
  have hi : i64 (id : Int) := ⟨by omega, by omega⟩
  replace hi := hidden hi
  clear h hI ok
  go_enter Tryz.func74, Tryz.ntmps74
  go_wp2_with fail
  refine (kU.out).mono ?_
  rintro ev w1 ⟨rfl, hB⟩
  obtain ⟨w5, hw5, hB5, hN5⟩ : ∃ w5, w1.alloc (.cells #[.int .i64 0, .int .i64 0, .slice none 0 0] 110) = w5 ∧ Below w1.heap.size w1 w5 ∧ NdAt w5 w1.heap.size 0 0 (.slice none 0 0) := ⟨_, rfl, (Below.refl _ _).alloc (Nat.le_refl _) _, ⟨by simp, by simp, by simp⟩⟩
  have n1 := hN5.c1
  have hB05 := hB.trans (hB5.mono hB.size)
  have hBd := hidden (hB05.trans ((below_drew1 w5).mono hB05.size))
  have kA := hidden (about_num id hi.out 11 w5.drew (hG.out.below hBd.out))
  have kn := hidden (fun (wx : World) (hx : Below w5.drew.heap.size w5.drew wx) => show wx.cell? ⟨w1.heap.size, 1, none⟩ = some (.int .i64 0) from (hx.cell (p := ⟨w1.heap.size, 1, none⟩) (lt_of_cell (a := ⟨w1.heap.size, 1, none⟩) n1)).trans n1)
  clear hB hB5 hN5 hB05 kU hG
  replace hw5 := hidden hw5
  go_upto_region 2 with fail
  rw [hw5.out]
  clear hw5
  go_region_with (go_at_call 67; refine (kA.out).mono ?_; rintro ev w6 ⟨fb, rfl, hch, hB6⟩; have n6 := kn.out _ hB6; have hE := hidden (And.intro hch (hBd.out.trans (hB6.mono hBd.out.size))); clear hB6 hch)
  all_goals (go_wp2; go_ret2; exact ⟨_, rfl, hE.out⟩)
end
end Go.Proofs.YtdkpffpjbpfdnaaGreatDoor
/- stands, cut into declarations: what they share. -/
namespace Go.Proofs.YtdkpffpjbpfdnaaGreatDoor
open Go.RowKit Go.Extern.Stop Go.Stop Go.Extern Go.Maps Go.Sort Go.Shelf
set_option maxRecDepth 100000

/-- The block of that number within a function's code. -/
def blockAt (n : Nat) : Code → Option Code
  | .block m c => if m = n then some (.block m c) else blockAt n c
  | .loop c => blockAt n c
  | .seq a b => match blockAt n a with
    | some c => some c
    | none => blockAt n b
  | .scope c => blockAt n c
  | .cond _ a b => match blockAt n a with
    | some c => some c
    | none => blockAt n b
  | _ => none
/-- The region of that number. -/
def regionAt (n : Nat) : Code → Option Code
  | .region m o d => if m = n then some (.region m o d) else none
  | .block _ c => regionAt n c
  | .loop c => regionAt n c
  | .seq a b => match regionAt n a with
    | some c => some c
    | none => regionAt n b
  | .scope c => regionAt n c
  | .cond _ a b => match regionAt n a with
    | some c => some c
    | none => regionAt n b
  | _ => none
/-- The branching on that slot. -/
def condAt (n : Nat) : Code → Option Code
  | .block _ c => condAt n c
  | .loop c => condAt n c
  | .seq a b => match condAt n a with
    | some c => some c
    | none => condAt n b
  | .scope c => condAt n c
  | .cond (.tmp m) a b => if m = n then some (.cond (.tmp m) a b) else match condAt n a with
    | some c => some c
    | none => condAt n b
  | .cond _ a b => match condAt n a with
    | some c => some c
    | none => condAt n b
  | _ => none

def SBel (w wx : World) : Prop := Below w.heap.size w wx
theorem SBel.mk {w wx : World} (h : Below w.heap.size w wx) : SBel w wx := h
theorem SBel.out {w wx : World} (h : SBel w wx) : Below w.heap.size w wx := h
theorem seen_below {sb n : Nat} {S : Nat → Bool} {w w' : World} (h : SeenAt sb n S w) (hlt : sb < w.heap.size) (hb : Below w.heap.size w w') : SeenAt sb n S w' :=
  ⟨fun i hi => (hb.cell (p := ⟨sb, i, none⟩) hlt).trans (h.cell i hi), fun i hi => ((Apart.of_below (bs := []) hb).frozen (p := ⟨sb, i, none⟩) hlt (by simp)).trans (h.free i hi)⟩
theorem seen_congr {sb n : Nat} {S T : Nat → Bool} {w : World} (h : SeenAt sb n S w) (he : ∀ i, i < n → S i = T i) : SeenAt sb n T w := ⟨fun i hi => by rw [← he i hi]; exact h.cell i hi, h.free⟩
/-- What stands keeps through its rounds. -/
structure Had (sb : Nat) (w1 : World) (S : Nat → Bool) (wx : World) : Prop where
  s : SeenAt sb 200 S wx
  b : Below sb w1 wx
  l : sb < wx.heap.size
theorem Had.more {sb : Nat} {w1 wx wy : World} {S : Nat → Bool} (h : Had sb w1 S wx) (hb : Below wx.heap.size wx wy) : Had sb w1 S wy :=
  ⟨seen_below h.s h.l hb, h.b.trans (hb.mono (Nat.le_of_lt h.l)), Nat.lt_of_lt_of_le h.l hb.size⟩
end Go.Proofs.YtdkpffpjbpfdnaaGreatDoor
