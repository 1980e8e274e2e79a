/- What layer 4's statements call opened and is; the Opens behind a Commit. -/
import Derived.Test.YtlomogicfhpljaaGreatDoorJq2
namespace Go.Proofs.YtlomogicfhpljaaGreatDoor
open Go.RowKit Go.Extern.Stop Go.Stop Go.Extern
set_option maxRecDepth 100000

/-- Where a group l stands on the disk; v: what the blocks outside the Journal held ahead of it. -/
def Stands (at_ own : Nat) (l : Grp) (v : Nat → List Int) (mem : Nat → Int) : Prop :=
  (Idle at_ mem ∧ ∀ no, (no < at_ ∨ at_ + own ≤ no) → blockL mem no = v no) ∨
  (Noted at_ l mem ∧ ∀ no, (no < at_ ∨ at_ + own ≤ no) → (∀ p ∈ l, p.1 ≠ no) → blockL mem no = v no) ∨
  (Idle at_ mem ∧ (∀ no, (no < at_ ∨ at_ + own ≤ no) → (∀ p ∈ l, p.1 ≠ no) → blockL mem no = v no) ∧ ∀ p ∈ l, blockL mem p.1 = p.2)
theorem Stands.before {at_ own : Nat} {l : Grp} {v : Nat → List Int} {mem : Nat → Int} (hi : Idle at_ mem) (h : ∀ no, (no < at_ ∨ at_ + own ≤ no) → blockL mem no = v no) : Stands at_ own l v mem := Or.inl ⟨hi, h⟩
theorem Stands.under {at_ own : Nat} {l : Grp} {v : Nat → List Int} {mem : Nat → Int} (hn : Noted at_ l mem) (h : ∀ no, (no < at_ ∨ at_ + own ≤ no) → (∀ p ∈ l, p.1 ≠ no) → blockL mem no = v no) : Stands at_ own l v mem := Or.inr (Or.inl ⟨hn, h⟩)
theorem Stands.behind {at_ own : Nat} {l : Grp} {v : Nat → List Int} {mem : Nat → Int} (hi : Idle at_ mem) (h : ∀ no, (no < at_ ∨ at_ + own ≤ no) → (∀ p ∈ l, p.1 ≠ no) → blockL mem no = v no) (hl : ∀ p ∈ l, blockL mem p.1 = p.2) : Stands at_ own l v mem := Or.inr (Or.inr ⟨hi, h, hl⟩)
/-- It is not on its way. -/
def Rests (at_ own : Nat) (l : Grp) (v : Nat → List Int) (mem : Nat → Int) : Prop :=
  (Idle at_ mem ∧ ∀ no, (no < at_ ∨ at_ + own ≤ no) → blockL mem no = v no) ∨
  (Idle at_ mem ∧ (∀ no, (no < at_ ∨ at_ + own ≤ no) → (∀ p ∈ l, p.1 ≠ no) → blockL mem no = v no) ∧ ∀ p ∈ l, blockL mem p.1 = p.2)
theorem Rests.before {at_ own : Nat} {l : Grp} {v : Nat → List Int} {mem : Nat → Int} (hi : Idle at_ mem) (h : ∀ no, (no < at_ ∨ at_ + own ≤ no) → blockL mem no = v no) : Rests at_ own l v mem := Or.inl ⟨hi, h⟩
theorem Rests.behind {at_ own : Nat} {l : Grp} {v : Nat → List Int} {mem : Nat → Int} (hi : Idle at_ mem) (h : ∀ no, (no < at_ ∨ at_ + own ≤ no) → (∀ p ∈ l, p.1 ≠ no) → blockL mem no = v no) (hl : ∀ p ∈ l, blockL mem p.1 = p.2) : Rests at_ own l v mem := Or.inr ⟨hi, h, hl⟩
theorem Rests.stands {at_ own : Nat} {l : Grp} {v : Nat → List Int} {mem : Nat → Int} (h : Rests at_ own l v mem) : Stands at_ own l v mem := by
  rcases h with ⟨h1, h2⟩ | ⟨h1, h2, h3⟩
  · exact .before h1 h2
  · exact .behind h1 h2 h3
theorem Rests.idle {at_ own : Nat} {l : Grp} {v : Nat → List Int} {mem : Nat → Int} (h : Rests at_ own l v mem) : Idle at_ mem := by
  rcases h with ⟨h1, h2⟩ | ⟨h1, h2, h3⟩
  · exact h1
  · exact h1
/-- What an Open leaves. -/
structure Opened (w0 : World) (d g n at_ most own : Nat) (l : Grp) (v : Nat → List Int) (writes left : Int) (e : Ending) (w w' : World) : Prop where
  apart : Apart [d, g] w w'
  out : ∃ mem' writes' left', Sys w0 d g n mem' writes' left' w' ∧ LeftOk left' ∧ writes ≤ writes' ∧ writes' ≤ writes + 300 ∧
    ((∃ jb, e = .returned (.tuple #[ptr jb, .nilIface]) ∧ JAt jb d at_ most w' ∧ w.heap.size ≤ jb ∧ Rests at_ own l v mem' ∧ (left = -1 → left' = -1)) ∨
     (∃ b, e = .returned (.tuple #[.pointer none, flt b]) ∧ left' = 0 ∧ left ≠ -1 ∧ Stands at_ own l v mem'))
theorem open_stands {w0 : World} {d g n : Nat} {mem : Nat → Int} {writes left : Int} {w : World} (h : Sys w0 d g n mem writes left w) (hlo : LeftOk left) (hw : 0 ≤ writes ∧ writes < 400000000) (at_ most : Nat) (hm : 1 ≤ most ∧ most ≤ 200) (hat : at_ + needN most ≤ n) (l : Grp) (h1 : 1 ≤ l.length) (h2 : l.length ≤ most) (hg : Good n at_ (needN most) l) (v : Nat → List Int) (hs : Stands at_ (needN most) l v mem) :
    Calls Tryz.prog 23 #[ptr d, .int .i64 at_, .int .i64 most] w fun e w' => Opened w0 d g n at_ most (needN most) l v writes left e w w' := by
  have hsz : 1 + size l ≤ needN most := by
    have e : size l = rowsN l.length + l.length := rfl
    have e2 := rowsN_mono h2
    unfold needN
    omega
  by_cases hl : left = 0
  · subst hl
    refine (open_dead h at_ most hm hat).mono ?_
    rintro e w' ⟨b, rfl, hB⟩
    exact ⟨Apart.of_below hB, _, _, _, h.more hB, hlo, by omega, by omega, Or.inr ⟨b, rfl, rfl, by decide, hs⟩⟩
  · have idle : Rests at_ (needN most) l v mem → Calls Tryz.prog 23 #[ptr d, .int .i64 at_, .int .i64 most] w fun e w' => Opened w0 d g n at_ most (needN most) l v writes left e w w' := fun hr => by
      refine (open_idle h hl at_ most hm hat hr.idle).mono ?_
      rintro e w' ⟨jb, rfl, hJ, hjb, hB⟩
      exact ⟨Apart.of_below hB, _, _, _, h.more hB, hlo, by omega, by omega, Or.inl ⟨jb, rfl, hJ, hjb, hr, fun e => e⟩⟩
    rcases hs with ⟨a, b⟩ | ⟨hn, hu⟩ | ⟨a, b, c⟩
    · exact idle (.before a b)
    rotate_left
    · exact idle (.behind a b c)
    · skip
      have hll := hg.few
      have hwl : (settleWs at_ l).length ≤ 300 := by simp [settleWs]; omega
      refine (open_noted h hl hlo ⟨hw.1, by omega⟩ at_ most hm hat l h1 h2 hg hn).mono ?_
      rintro e w' ⟨hA, ⟨jb, left', rfl, hJ, hjb, hS, hl', hll'⟩ | ⟨b, k, rfl, hk, hS, hne⟩⟩
      · have hsa := settle_all (mem := mem) hg (by omega) hu
        exact ⟨hA, _, _, _, hS, hl', by omega, by omega, Or.inl ⟨jb, rfl, hJ, hjb, .behind hsa.1 hsa.2.1 hsa.2.2, hll'⟩⟩
      · have hso := settle_some hg hsz hn hu k hk
        exact ⟨hA, _, _, _, hS, by decide, by omega, by omega, Or.inr ⟨b, rfl, rfl, hne, .under hso.1 hso.2⟩⟩
/-- What is tells: noughts, or Fill of a number less one. -/
def isL (n : Int) : List Int := if n = 0 then zeroB else fillL (n - 1)
end Go.Proofs.YtlomogicfhpljaaGreatDoor
