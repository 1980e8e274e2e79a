/- Which blocks are taken, a bit each, as the blocks of a Cache say it; a Map as it lies in memory. -/
import Derived.Test.YtildpgingcmfcaaDoorCn
import Derived.Test.YtildpgingcmfcaaDoorAm0
namespace Go.Proofs.YtildpgingcmfcaaDoor
open Go.RowKit Go.Extern.Stop Go.Stop Go.Extern
set_option maxRecDepth 100000

/-- The byte of its block that has index i's bit, and that block. -/
def spotA (i : Nat) : Nat := i % 1024 / 8
def homeA (ma i : Nat) : Nat := ma + i / 1024
def byteA (mem : Nat → Int) (M : Chg) (ma i : Nat) : Int := (nowM mem M (homeA ma i)).getD (spotA i) 0
/-- Is index i taken? -/
def bitM (mem : Nat → Int) (M : Chg) (ma i : Nat) : Bool := tb (byteA mem M ma i) (i % 8)
def turnL (mem : Nat → Int) (M : Chg) (ma i : Nat) : List Int := layL (nowM mem M (homeA ma i)) (spotA i) [bits .xor .u8 (byteA mem M ma i) (2 ^ (i % 8))]
/-- The changes behind a turn of index i. -/
def turnM (mem : Nat → Int) (M : Chg) (ma i : Nat) : Chg := putM (homeA ma i : Nat) (turnL mem M ma i) M
theorem spotA_lt (i : Nat) : spotA i < 128 := by unfold spotA; omega
theorem turnL_row {mem : Nat → Int} {M : Chg} {ma i : Nat} (hr : Row (nowM mem M (homeA ma i))) : Row (turnL mem M ma i) :=
  layL_row hr (fun z hz => by obtain rfl := List.mem_singleton.1 hz; exact xor_bit_range _ _) (by have := spotA_lt i; simp; omega)
theorem now_turn {mem : Nat → Int} {M : Chg} {ma i : Nat} (ht : Tidy M) (hr : ∀ no, Row (nowM mem M no)) (no : Nat) : nowM mem (turnM mem M ma i) no = if no = homeA ma i then turnL mem M ma i else nowM mem M no := by
  unfold nowM turnM
  by_cases h : no = homeA ma i
  · subst h
    rw [if_pos rfl]
    exact getM_put_same ht (turnL_row (hr _)) _
  · rw [if_neg h]
    exact getM_put_other ht (turnL_row (hr _)) (by omega) _
theorem bit_turn_other {mem : Nat → Int} {M : Chg} {ma i : Nat} (ht : Tidy M) (hr : ∀ no, Row (nowM mem M no)) (mb j : Nat) (h : homeA mb j ≠ homeA ma i) : bitM mem (turnM mem M ma i) mb j = bitM mem M mb j := by
  unfold bitM byteA
  rw [now_turn ht hr, if_neg h]
theorem bit_turn {mem : Nat → Int} {M : Chg} {ma i : Nat} (ht : Tidy M) (hr : ∀ no, Row (nowM mem M no)) (j : Nat) : bitM mem (turnM mem M ma i) ma j = (bitM mem M ma j ^^ decide (j = i)) := by
  by_cases hh : j / 1024 = i / 1024
  · have he : homeA ma j = homeA ma i := by unfold homeA; omega
    unfold bitM byteA
    rw [now_turn ht hr, if_pos he, he]
    unfold turnL
    rw [layL_get (hr _) (by have := spotA_lt i; simp; omega)]
    by_cases hs : spotA j = spotA i
    · rw [if_pos (by rw [hs]; simp), hs, Nat.sub_self]
      show tb (bits .xor .u8 (byteA mem M ma i) (2 ^ (i % 8))) (j % 8) = _
      rw [xor_bit _ (by omega)]
      have e : decide (j % 8 = i % 8) = decide (j = i) := by
        unfold spotA at hs
        apply Bool.eq_iff_iff.2
        simp only [decide_eq_true_eq]
        omega
      rw [e]
      rfl
    · rw [if_neg (by simp; omega), decide_eq_false (by intro e; subst e; exact hs rfl), Bool.xor_false]
  · rw [bit_turn_other ht hr _ _ (by unfold homeA; omega), decide_eq_false (by intro e; subst e; exact hh rfl), Bool.xor_false]
section
variable {w0 : World} {d g n jb cb mb at_ most : Nat} {blocks : Int} {mem : Nat → Int} {writes left : Int} {M : Chg} {w w' : World}
theorem CSt.rows (h : CSt w0 d g n jb cb mb at_ most blocks mem writes left M w) (no : Nat) : Row (nowM mem M no) := by
  unfold nowM
  cases hh : hasM no M with
  | true => exact h.map.tidy.rows _ (getM_mem hh)
  | false =>
    rw [getM_none hh]
    refine ⟨blockL_len mem no, fun z hz => ?_⟩
    obtain ⟨j, -, rfl⟩ := List.mem_map.1 (show z ∈ (List.range 128).map (fun j => mem (no * 128 + j)) from hz)
    exact h.sys.disk.range _
end
theorem byteA_range {mem : Nat → Int} {M : Chg} {ma i : Nat} (hr : Row (nowM mem M (homeA ma i))) : 0 ≤ byteA mem M ma i ∧ byteA mem M ma i ≤ 255 := by
  unfold byteA
  have hl : spotA i < (nowM mem M (homeA ma i)).length := by rw [hr.1]; exact spotA_lt i
  rw [List.getD_eq_getElem?_getD, List.getElem?_eq_getElem hl]
  exact hr.2 _ (List.getElem_mem hl)
/-- Of a rising list of keys between two bounds. -/
theorem Tidy.few {M : Chg} (ht : Tidy M) (lo hi : Nat) (hl : lo ≤ hi) (h : ∀ p ∈ M, (lo : Int) ≤ p.1 ∧ p.1 < (hi : Int)) : M.length ≤ hi - lo := by
  have key : ∀ (M : Chg), M.Pairwise (fun p q => p.1 < q.1) → ∀ lo : Nat, lo ≤ hi → (∀ p ∈ M, (lo : Int) ≤ p.1 ∧ p.1 < (hi : Int)) → M.length ≤ hi - lo := by
    intro M
    induction M with
    | nil => intro _ lo _ _; simp
    | cons y r ih =>
      intro hp lo hlo hk
      obtain ⟨h1, h2⟩ := List.pairwise_cons.1 hp
      have hy := hk y (by simp)
      have := ih h2 (lo + 1) (by omega) (fun p hp => by have := h1 p hp; have := hk p (by simp [hp]); omega)
      simp
      omega
  exact key M ht.up lo hl h
/-- A Map at block ab, over the Cache at cb. -/
structure MpAt (ab cb ma fr k : Nat) (w : World) : Prop where
  c0 : w.cell? ⟨ab, 0, none⟩ = some (ptr cb)
  c1 : w.cell? ⟨ab, 1, none⟩ = some (.int .i64 ma)
  c2 : w.cell? ⟨ab, 2, none⟩ = some (.int .i64 fr)
  c3 : w.cell? ⟨ab, 3, none⟩ = some (.int .i64 k)
theorem MpAt.lt {ab cb ma fr k : Nat} {w : World} (h : MpAt ab cb ma fr k w) : ab < w.heap.size := lt_of_cell (a := ⟨ab, 0, none⟩) h.c0
theorem MpAt.keep {ab cb ma fr k : Nat} {w w' : World} {bs : List Nat} (h : MpAt ab cb ma fr k w) (ha : Apart bs w w') (hn : ab ∉ bs) : MpAt ab cb ma fr k w' :=
  ⟨(ha.cell (p := ⟨ab, 0, none⟩) h.lt hn).trans h.c0, (ha.cell (p := ⟨ab, 1, none⟩) h.lt hn).trans h.c1, (ha.cell (p := ⟨ab, 2, none⟩) h.lt hn).trans h.c2, (ha.cell (p := ⟨ab, 3, none⟩) h.lt hn).trans h.c3⟩
theorem MpAt.below {ab cb ma fr k : Nat} {w w' : World} (h : MpAt ab cb ma fr k w) (hb : Below w.heap.size w w') : MpAt ab cb ma fr k w' := h.keep (Apart.of_below (bs := []) hb) (by simp)
end Go.Proofs.YtildpgingcmfcaaDoor
