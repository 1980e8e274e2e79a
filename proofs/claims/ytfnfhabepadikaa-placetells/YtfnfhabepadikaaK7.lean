/- Ok. -/
import Derived.Test.YtfnfhabepadikaaK6
namespace Go.Proofs.Ytfnfhabepadikaa
open Go Go.RowKit
set_option maxRecDepth 100000

def OkL (L : List Rg) : Prop := L.length ≤ 32 ∧ ∀ a ∈ L, OkR a
set_option maxHeartbeats 2000000 in
theorem index_calls (L : List Rg) (w : World) (v : Value) (hv : RgAt w v L) (hl : L.length ≤ 100000) : Calls Try.prog 36 #[v, .func (.func 28) #[] #[]] w fun e w' => (∃ i : Int, e = .returned (.int .i64 i) ∧ ((∀ a ∈ L, OkR a) ↔ i = -1) ∧ -1 ≤ i) ∧ Below w.heap.size w w' := by
  obtain ⟨a0, cap, rfl, hcap, hc⟩ := hv
  replace hc := hidden hc
  go_enter Try.func36, Try.ntmps36
  go_wp2_with fail
  go_loopg [8] L.length (fun g si wr => ∃ k : Nat, k ≤ L.length ∧ g = L.length - k ∧ si = .int .i64 (k : Int) ∧ Hid ((∀ j a, j < k → L[j]? = some a → OkR a) ∧ Below w.heap.size w wr))
  case atStart => exact ⟨0, Nat.zero_le _, rfl, rfl, hidden ⟨fun j a h => by omega, Below.refl _ _⟩⟩
  case round =>
    obtain ⟨k, hk, hg, rfl, hI⟩ := hrel
    obtain ⟨hF, hB⟩ := hI.out
    replace hg := hidden hg
    by_cases hlt : k < L.length
    · have hlt' : (k : Int) < (L.length : Int) := by omega
      obtain ⟨b, off, rfl, hbl, hx⟩ := hc.out (by rintro rfl; simp at hlt)
      obtain ⟨⟨x, y⟩, hget⟩ : ∃ t, L[k]? = some t := ⟨_, List.getElem?_eq_getElem hlt⟩
      obtain ⟨d0, d1⟩ := hx k _ hget
      have f0 := (hB.cell (p := ⟨b, off + k * 2, none⟩) hbl).trans d0
      have f1 := (hB.cell (p := ⟨b, off + k * 2 + 1, none⟩) hbl).trans d1
      have kW := hidden (fun wx => wrong_calls (x, y) wx)
      replace hF := hidden hF
      replace hB := hidden hB
      clear d0 d1 hx hI hc
      dsimp only at f0 f1
      go_wp2_with fail
      refine (kW.out _).mono ?_
      rintro e w3 ⟨⟨q, rfl, hq⟩, hB3⟩
      replace hB3 := hidden (hB.out.trans (hB3.mono hB.out.size))
      clear f0 f1 kW
      cases q
      · have hE := hidden (show ∀ j a, j < k + 1 → L[j]? = some a → OkR a from fun j a hj hja => by
          by_cases h : j < k
          · exact hF.out j a h hja
          · have e : j = k := by omega
            subst e
            rw [hget] at hja
            cases hja
            by_cases hok : OkR (x, y)
            · exact hok
            · exact absurd (hq.2 hok) (by simp))
        clear hq hF hB
        go_wp2
        go_roundg (L.length - (k + 1))
        case measure => rw [hg.out]; omega
        case rel => exact ⟨k + 1, hlt, rfl, by go_num, hidden ⟨hE.out, hB3.out⟩⟩
      · have hE := hidden (show (∀ a ∈ L, OkR a) ↔ (k : Int) = -1 from ⟨fun h => absurd (h _ (List.mem_of_getElem? hget)) (hq.1 rfl), fun h => by omega⟩)
        clear hq hF hB
        go_wp2
        go_ret
        exact ⟨⟨_, rfl, hE.out, by omega⟩, hB3.out⟩
    · obtain rfl : k = L.length := by omega
      have hE := hidden (show ∀ a ∈ L, OkR a from fun a ha => by
        obtain ⟨j, hj⟩ := List.getElem?_of_mem ha
        exact hF j a (List.getElem?_eq_some_iff.1 hj).1 hj)
      replace hB := hidden hB
      clear hI hF
      go_wp2
      go_ret
      exact ⟨⟨_, rfl, ⟨fun _ => rfl, fun _ => hE.out⟩, Int.le_refl _⟩, hB.out⟩
theorem contains_calls (L : List Rg) (w : World) (v : Value) (hv : RgAt w v L) (hl : L.length ≤ 100000) : Calls Try.prog 27 #[v, .func (.func 28) #[] #[]] w fun e w' => (∃ b : Bool, e = .returned (.bool b) ∧ (b = false ↔ ∀ a ∈ L, OkR a)) ∧ Below w.heap.size w w' := by
  have kI := hidden (index_calls L w v hv hl)
  go_enter Try.func27, Try.ntmps27
  go_wp2_with fail
  refine kI.out.mono ?_
  rintro e w3 ⟨⟨i, rfl, hi, hi2⟩, hB⟩
  have hE := hidden (show (decide (0 ≤ i) = false ↔ ∀ a ∈ L, OkR a) from ⟨fun h => hi.2 (by simp at h; omega), fun h => by simp; have := hi.1 h; omega⟩)
  clear hi hi2 kI
  go_wp2
  go_ret
  exact ⟨⟨_, rfl, hE.out⟩, hB⟩
def okB (L : List Rg) : Bool := decide (L.length ≤ 32) && L.all fun a => decide (0 ≤ a.1) && decide (a.1 ≤ a.2) && decide (a.2 ≤ 1073741824)
theorem okB_iff (L : List Rg) : okB L = true ↔ OkL L := by
  unfold okB OkL OkR
  simp [List.all_eq_true, and_assoc]
theorem ok_calls (L : List Rg) (w : World) (v : Value) (hv : RgAt w v L) (hl : L.length ≤ 100000) : Calls Try.prog 13 #[v] w fun e w' => e = .returned (.bool (okB L)) ∧ Below w.heap.size w w' := by
  have kC := hidden (contains_calls L w v hv hl)
  have hiff := okB_iff L
  obtain ⟨a0, cap, rfl, hcap⟩ := hv.form
  clear hv
  generalize okB L = q at hiff ⊢
  by_cases h : L.length ≤ 32
  · have h' : (L.length : Int) ≤ 32 := by omega
    have hE := hidden (show OkL L ↔ ∀ a ∈ L, OkR a from ⟨fun h => h.2, fun h2 => ⟨h, h2⟩⟩)
    replace hiff := hidden hiff
    clear h
    go_enter Try.func13, Try.ntmps13
    go_wp2_with fail
    refine kC.out.mono ?_
    rintro e w3 ⟨⟨b, rfl, hb⟩, hB⟩
    rw [← hE.out, ← hiff.out] at hb
    obtain rfl : q = !b := by cases b <;> cases q <;> simp_all
    clear kC hE hb
    cases b
    · go_wp2
      go_ret
      exact ⟨rfl, hB⟩
    · go_wp2
      go_ret
      exact ⟨rfl, hB⟩
  · have h' : ¬ (L.length : Int) ≤ 32 := by omega
    obtain rfl : q = false := by
      cases q
      · rfl
      · exact absurd (hiff.1 rfl).1 h
    clear h kC hiff
    go_enter Try.func13, Try.ntmps13
    go_wp2
    go_ret
    exact ⟨rfl, Below.refl _ _⟩
end Go.Proofs.Ytfnfhabepadikaa
