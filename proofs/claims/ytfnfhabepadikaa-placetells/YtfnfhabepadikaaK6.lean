/- find. -/
import Derived.Test.YtfnfhabepadikaaK5
namespace Go.Proofs.Ytfnfhabepadikaa
open Go Go.RowKit
set_option maxRecDepth 100000

/-- What a list may be that is asked about. -/
def Tame (L : List Rg) : Prop := ∀ a ∈ L, 0 ≤ a.1 ∧ a.1 ≤ 1099511627 ∧ 0 ≤ a.2 ∧ a.2 ≤ 1099511627
def findV (L : List Rg) (size : Int) : Value := .tuple #[.int .i64 ((findL L size).getD 0), .bool (findL L size).isSome]
theorem find_neg (L : List Rg) (size : Int) (h : size < 0) : findV L size = .tuple #[.int .i64 0, .bool false] := by
  unfold findV findL; rw [if_pos h]; rfl
theorem find_hit (L : List Rg) (size : Int) (k : Nat) (a : Rg) (hs : ¬ size < 0) (hp : (L.drop k).find? (fun a => decide (max size 1 ≤ a.2 - upZ a.1)) = L.find? (fun a => decide (max size 1 ≤ a.2 - upZ a.1))) (hk : L[k]? = some a) (ha : max size 1 ≤ a.2 - upZ a.1) : findV L size = .tuple #[.int .i64 (upZ a.1), .bool true] := by
  obtain ⟨hlt, rfl⟩ := List.getElem?_eq_some_iff.1 hk
  unfold findV findL
  rw [if_neg hs, ← hp, List.drop_eq_getElem_cons hlt, List.find?_cons_of_pos (by simpa using ha)]
  rfl
theorem find_go (L : List Rg) (size : Int) (k : Nat) (a : Rg) (hk : L[k]? = some a) (ha : ¬ max size 1 ≤ a.2 - upZ a.1) : (L.drop (k + 1)).find? (fun a => decide (max size 1 ≤ a.2 - upZ a.1)) = (L.drop k).find? (fun a => decide (max size 1 ≤ a.2 - upZ a.1)) := by
  obtain ⟨hlt, rfl⟩ := List.getElem?_eq_some_iff.1 hk
  rw [List.drop_eq_getElem_cons hlt, List.find?_cons_of_neg (by simpa using ha)]
theorem find_end (L : List Rg) (size : Int) (hs : ¬ size < 0) (hp : (L.drop L.length).find? (fun a => decide (max size 1 ≤ a.2 - upZ a.1)) = L.find? (fun a => decide (max size 1 ≤ a.2 - upZ a.1))) : findV L size = .tuple #[.int .i64 0, .bool false] := by
  unfold findV findL
  rw [if_neg hs, ← hp, List.drop_length]
  rfl
set_option maxHeartbeats 4000000 in
theorem find_calls (L : List Rg) (size : Int) (w : World) (v : Value) (hv : RgAt w v L) (ht : Tame L) (hl : L.length ≤ 100000) : Calls Try.prog 22 #[v, .int .i64 size] w fun e w' => e = .returned (findV L size) ∧ Below w.heap.size w w' := by
  by_cases hs : size < 0
  · rw [find_neg L size hs]
    obtain ⟨a0, cap, rfl, -⟩ := hv.form
    clear hv
    go_enter Try.func22, Try.ntmps22
    go_wp2
    go_ret2
    exact ⟨rfl, Below.refl _ _⟩
  obtain ⟨a0, cap, rfl, hcap, hc⟩ := hv
  obtain ⟨R, hR⟩ : ∃ R, findV L size = R := ⟨_, rfl⟩
  have hhit := hidden (fun k a h1 h2 h3 => (hR ▸ find_hit L size k a hs h1 h2 h3 : R = _))
  have hend := hidden (fun h => (hR ▸ find_end L size hs h : R = _))
  have hgo := hidden (find_go L size)
  rw [hR]
  clear hR
  generalize hFF : (fun k : Nat => (L.drop k).find? (fun a => decide (max size 1 ≤ a.2 - upZ a.1)) = L.find? (fun a => decide (max size 1 ≤ a.2 - upZ a.1))) = F at *
  have hF0 : F 0 := by rw [← hFF]; rfl
  have hgo2 := hidden (fun k a (h1 : L[k]? = some a) (h2 : ¬ max size 1 ≤ a.2 - upZ a.1) (h3 : F k) => (show F (k + 1) by rw [← hFF] at h3 ⊢; exact (hgo.out k a h1 h2).trans h3))
  have hhit2 := hidden (fun k a (h1 : F k) (h2 : L[k]? = some a) (h3 : max size 1 ≤ a.2 - upZ a.1) => hhit.out k a (by rw [← hFF] at h1; exact h1) h2 h3)
  have hend2 := hidden (fun (h1 : F L.length) => hend.out (by rw [← hFF] at h1; exact h1))
  replace hc := hidden hc
  replace ht := hidden ht
  clear hFF hgo hhit hend
  go_enter Try.func22, Try.ntmps22
  go_wp2_with fail
  go_loopg [13] L.length (fun g si wr => ∃ k : Nat, k ≤ L.length ∧ g = L.length - k ∧ si = .int .i64 (k : Int) ∧ Hid (F k ∧ Below w.heap.size w wr))
  case atStart => exact ⟨0, Nat.zero_le _, rfl, rfl, hidden ⟨hF0, Below.refl _ _⟩⟩
  case round =>
    obtain ⟨k, hk, hg, rfl, hI⟩ := hrel
    obtain ⟨hF, hB⟩ := hI.out
    replace hg := hidden hg
    by_cases hlt : k < L.length
    · have hlt' : (k : Int) < (L.length : Int) := by omega
      obtain ⟨b, off, rfl, hbl, hx⟩ := hc.out (by rintro rfl; simp at hlt)
      obtain ⟨⟨x, y⟩, hget⟩ : ∃ t, L[k]? = some t := ⟨_, List.getElem?_eq_getElem hlt⟩
      obtain ⟨d0, d1⟩ := hx k _ hget
      obtain ⟨t1, t2, t3, t4⟩ := ht.out _ (List.mem_of_getElem? hget)
      have f0 := (hB.cell (p := ⟨b, off + k * 2, none⟩) hbl).trans d0
      have f1 := (hB.cell (p := ⟨b, off + k * 2 + 1, none⟩) hbl).trans d1
      have kU := hidden (fun wx => up_calls x t1 (by dsimp only at t2; omega) wx)
      have kH := hidden (fun wx => held_calls size wx)
      have hu := up_le x
      have hB2 := hidden (hB.trans ((box_new wr (Obj.cells #[Value.int .i64 x, Value.int .i64 y] 25)).mono hB.size))
      have hhit3 := hidden (fun h3 => hhit2.out k (x, y) hF hget h3)
      have hgo3 := hidden (fun h3 => hgo2.out k (x, y) hget h3 hF)
      dsimp only at f0 f1 t2 t3 t4 hhit3 hgo3
      generalize upZ x = u at *
      generalize max size 1 = s at *
      obtain ⟨b1, -⟩ := And.intro (box_at wr x y) True.intro
      have c0 := b1.c0
      have c1 := b1.c1
      clear d0 d1 hx hI hB hhit2 hgo2 hend2 hc ht b1
      by_cases hsz : s ≤ y - u
      · have hE := hidden (hhit3.out hsz)
        clear hhit3 hgo3
        go_upto_region 7 with (refine (kU.out _).mono ?_; rintro e w3 ⟨rfl, rfl⟩)
        go_quiet (first
          | (go_at_call 25; exact Calls.quiet_of_same (kH.out _)))
        have hB3 := hidden (hB2.out.trans ((bdN _ nq).mono hB2.out.size))
        clear c0 c1 f0 f1 kU kH hB2
        generalize (wr.alloc (Obj.cells #[Value.int .i64 x, Value.int .i64 y] 25)).drewN nq = w4 at hB3 ⊢
        go_wp2
        go_ret2
        exact ⟨by rw [hE.out]; rfl, hB3.out⟩
      · have hE := hidden (hgo3.out (by omega))
        clear hhit3 hgo3
        go_upto_region 7 with (refine (kU.out _).mono ?_; rintro e w3 ⟨rfl, rfl⟩)
        go_quiet (first
          | (go_at_call 25; exact Calls.quiet_of_same (kH.out _)))
        have hB3 := hidden (hB2.out.trans ((bdN _ nq).mono hB2.out.size))
        clear c0 c1 f0 f1 kU kH hB2
        generalize (wr.alloc (Obj.cells #[Value.int .i64 x, Value.int .i64 y] 25)).drewN nq = w4 at hB3 ⊢
        go_wp2
        go_roundg (L.length - (k + 1))
        case measure => rw [hg.out]; omega
        case rel => exact ⟨k + 1, hlt, rfl, by go_num, hidden ⟨hE.out, hB3.out⟩⟩
    · obtain rfl : k = L.length := by omega
      have hE := hidden (hend2.out hF)
      replace hB := hidden hB
      clear hI hgo2 hhit2 hend2
      go_wp2
      go_ret2
      exact ⟨by rw [hE.out]; rfl, hB.out⟩
end Go.Proofs.Ytfnfhabepadikaa
