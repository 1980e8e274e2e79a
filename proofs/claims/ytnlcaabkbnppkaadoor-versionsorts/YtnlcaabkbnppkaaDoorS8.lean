/- slices.symMergeCmpFunc at texts: what the search and the two halves need (pure). -/
import Derived.Test.YtnlcaabkbnppkaaDoorS7
namespace Go.Proofs.YtnlcaabkbnppkaaDoor
open Go Go.RowKit
set_option maxRecDepth 100000

/-- Where the search begins. -/
structure Cuts (la lb h s0 r0 : Nat) : Prop where
  rA : r0 ≤ la
  rh : r0 ≤ h
  sB : h ≤ s0 + lb
  c0 : s0 = 0 ∨ h = s0 + lb
  c1 : r0 = h ∨ r0 = la
  le : s0 ≤ r0
theorem Cuts.long {la lb h : Nat} (h1 : 2 * h ≤ la + lb) (h2 : la + lb < 2 * h + 2) (h3 : h < la) : Cuts la lb h (h - lb) h := by
  constructor <;> omega
theorem Cuts.short {la lb h : Nat} (h1 : 2 * h ≤ la + lb) (h3 : ¬ h < la) : Cuts la lb h 0 la := by
  constructor <;> omega
/-- The two halves of a merge. -/
structure MgF (b n A0 I Mid E B0 : Nat) (P A B S A1 A2 B1 B2 : List TT) : Prop where
  pre1 : ∀ wx : World, TRow wx b (txt (P ++ (A1 ++ (B1 ++ (A2 ++ (B2 ++ S)))))) → MgPre wx b n A0 I Mid P A1 B1 (A2 ++ (B2 ++ S))
  pre2 : ∀ (M1 : List TT) (wx : World), M1.Perm (A1 ++ B1) → TRow wx b (txt (P ++ (M1 ++ (A2 ++ (B2 ++ S))))) → MgPre wx b n Mid E B0 (P ++ M1) A2 B2 S
  fin : ∀ M1 M2 : List TT, M1.Perm (A1 ++ B1) → Srt M1 → M2.Perm (A2 ++ B2) → Srt M2 → (M1 ++ M2).Perm (A ++ B) ∧ Srt (M1 ++ M2)
  s1 : Srt A1
  s2 : Srt A2
  t1 : Srt B1
  t2 : Srt B2
theorem mg_facts {w : World} {b n A0 M0 B0 I Mid E : Nat} {P A B S A1 A2 B1 B2 : List TT} (h : MgPre w b n A0 M0 B0 P A B S) (hA : A = A1 ++ A2) (hB : B = B1 ++ B2)
    (hI : I = A0 + A1.length) (hM : Mid = I + B1.length) (hE : E = Mid + A2.length) (hlt : ∀ x ∈ A1 ++ B1, ∀ y ∈ A2 ++ B2, ltT x y) : MgF b n A0 I Mid E B0 P A B S A1 A2 B1 B2 := by
  subst hA hB
  have ha := h.ha
  have hb := h.hb
  have hn := h.hn
  have hsa := h.sa
  have hsb := h.sb
  rw [Srt, List.pairwise_append] at hsa hsb
  simp only [List.length_append] at hb hn
  refine ⟨fun wx hr => ⟨ha, by omega, by omega, by simp only [List.length_append]; omega, h.few, fun t ht => h.big t ?_, hsa.1, hsb.1, fun x hx y hy => h.tag x (by simp [hx]) y (by simp [hy]), hr⟩, fun M1 wx hp hr => ?_, fun M1 M2 p1 q1 p2 q2 => merge_two p1 p2 q1 q2 hlt, hsa.1, hsa.2.1, hsb.1, hsb.2.1⟩
  · rcases List.mem_append.1 ht with ht | ht <;> simp [ht]
  · have hl := hp.length_eq
    simp only [List.length_append] at hl
    refine ⟨by simp only [List.length_append]; omega, by simp only [List.length_append]; omega, by simp only [List.length_append]; omega, by simp only [List.length_append]; omega, h.few, fun t ht => h.big t ?_, hsa.2.1, hsb.2.1, fun x hx y hy => h.tag x (by simp [hx]) y (by simp [hy]), by rw [List.append_assoc]; exact hr⟩
    rcases List.mem_append.1 ht with ht | ht <;> simp [ht]
theorem txt_rot (P A1 A2 B1 B2 S : List TT) : txt (P ++ (A1 ++ A2 ++ (B1 ++ B2 ++ S))) = txt (P ++ A1) ++ (txt A2 ++ (txt B1 ++ txt (B2 ++ S))) ∧ txt (P ++ A1) ++ (txt B1 ++ (txt A2 ++ txt (B2 ++ S))) = txt (P ++ (A1 ++ (B1 ++ (A2 ++ (B2 ++ S))))) := by
  constructor <;> simp only [txt_app, List.append_assoc]
end Go.Proofs.YtnlcaabkbnppkaaDoor
