/- take and find. -/
import Derived.Test.YtfnfhabepadikaaK4
namespace Go.Proofs.Ytfnfhabepadikaa
open Go Go.RowKit
set_option maxRecDepth 100000

theorem take_len (L : List Rg) (r : Rg) : (takeL L r).length ≤ 2 * L.length := by
  unfold takeL
  split
  · omega
  · induction L with
    | nil => simp
    | cons a l ih => rw [List.flatMap_cons, List.length_append, List.length_cons]; have := rest_len a r; omega
theorem flat_take (L : List Rg) (r a : Rg) (k : Nat) (h : L[k]? = some a) : (L.take (k + 1)).flatMap (fun a => restP a r) = (L.take k).flatMap (fun a => restP a r) ++ restP a r := by
  rw [List.take_add_one, h, List.flatMap_append]; simp
theorem flat_len (L : List Rg) (r : Rg) : (L.flatMap (fun a => restP a r)).length ≤ 2 * L.length := by
  induction L with
  | nil => simp
  | cons a l ih => rw [List.flatMap_cons, List.length_append, List.length_cons]; have := rest_len a r; omega
theorem take_same (L : List Rg) (r : Rg) (w : World) (v : Value) (hv : RgAt w v L) (h : r.2 ≤ r.1) : Calls Try.prog 23 #[v, rv r] w fun e w' => (∃ v, e = .returned v ∧ RgAt w' v (takeL L r)) ∧ Below w.heap.size w w' := by
  rw [takeL, if_pos h]
  obtain ⟨p, q⟩ := r
  unfold rv
  dsimp only at h ⊢
  obtain ⟨b1, hB⟩ := And.intro (box_at w p q) (box_new w (Obj.cells #[Value.int .i64 p, Value.int .i64 q] 25))
  go_enter Try.func23, Try.ntmps23
  go_upto_region 1 with fail
  generalize w.alloc (Obj.cells #[Value.int .i64 p, Value.int .i64 q] 25) = w1 at b1 hB ⊢
  have c0 := b1.c0
  have c1 := b1.c1
  go_wp2_with fail
  refine (empty_calls (p, q) w1).mono ?_
  rintro e w2 ⟨rfl, hB2⟩
  have hE := hidden (hB.trans (hB2.mono hB.size))
  have hv2 := hidden (hv.below hE.out)
  clear b1 hB hB2 c0 c1 hv
  go_wp2
  go_ret
  exact ⟨⟨_, rfl, hv2.out⟩, hE.out⟩
set_option maxHeartbeats 4000000 in
theorem take_own (L : List Rg) (r : Rg) (w : World) (v : Value) (hv : RgAt w v L) (hne : ∀ a ∈ L, a.1 < a.2) (hl : L.length ≤ 100000) (h : ¬ r.2 ≤ r.1) : Calls Try.prog 23 #[v, rv r] w fun e w' => (∃ v, e = .returned v ∧ RgOwn w.heap.size w' v (takeL L r)) ∧ Below w.heap.size w w' := by
  rw [takeL, if_neg h]
  obtain ⟨p, q⟩ := r
  unfold rv
  dsimp only at h
  obtain ⟨F, hFk⟩ : ∃ F : Nat → List Rg, ∀ k, F k = (L.take k).flatMap fun a => restP a (p, q) := ⟨_, fun _ => rfl⟩
  have hF0 : F 0 = [] := by rw [hFk]; rfl
  have hFl : F L.length = L.flatMap fun a => restP a (p, q) := by rw [hFk, List.take_length]
  have hcall := hidden (fun (base k : Nat) (a : Rg) (wx : World) (u : Value) (hk : L[k]? = some a) (hu : RgOwn base wx u (F k)) (hb : base ≤ wx.heap.size) => (show Calls Try.prog 35 #[u, .agg #[.int .i64 a.1, .int .i64 a.2], .agg #[.int .i64 p, .int .i64 q]] wx fun e w' => (∃ v, e = .returned v ∧ RgOwn base w' v (F (k + 1))) ∧ Below base wx w' by
    have hr := rest_calls base (F k) a (p, q) wx u hu hb (by have h1 := flat_len (L.take k) (p, q); have h2 := List.length_take_le k L; rw [← hFk] at h1; have h3 : (L.take k).length ≤ L.length := List.length_take_le' k L; omega) (hne a (List.mem_of_getElem? hk)) (by show p < q; omega)
    rw [hFk (k + 1), flat_take L (p, q) a k hk, ← hFk k]
    exact hr))
  rw [← hFl]
  replace hF0 := hidden hF0
  clear hFl hFk hne
  obtain ⟨a0, cap, rfl, hcap, hc⟩ := hv
  obtain ⟨b1, hB⟩ := And.intro (box_at w p q) (box_new w (Obj.cells #[Value.int .i64 p, Value.int .i64 q] 25))
  replace hc := hidden hc
  go_enter Try.func23, Try.ntmps23
  go_upto_region 1 with fail
  generalize w.alloc (Obj.cells #[Value.int .i64 p, Value.int .i64 q] 25) = w1 at b1 hB ⊢
  have c0 := b1.c0
  have c1 := b1.c1
  go_wp2_with fail
  refine (empty_calls (p, q) w1).mono ?_
  rintro e w2 ⟨rfl, hB2⟩
  have b2 := hidden (b1.below hB2)
  have hE := hidden (hB.trans (hB2.mono hB.size))
  clear b1 hB hB2 c0 c1
  go_wp2_with fail
  go_loopg [5, 13] L.length (fun g sl si wr => ∃ k : Nat, k ≤ L.length ∧ g = L.length - k ∧ si = .int .i64 (k : Int) ∧ Hid (RgOwn w2.heap.size wr sl (F k) ∧ Below w2.heap.size w2 wr))
  case atStart => exact ⟨0, Nat.zero_le _, rfl, rfl, hidden ⟨by rw [hF0.out]; exact RgOwn.nil _ _, Below.refl _ _⟩⟩
  case round =>
    obtain ⟨k, hk, hg, rfl, hI⟩ := hrel
    obtain ⟨hO, hB⟩ := hI.out
    replace hg := hidden hg
    by_cases hlt : k < L.length
    · have hlt' : (k : Int) < (L.length : Int) := by omega
      obtain ⟨b, off, rfl, hbl, hx⟩ := hc.out (by rintro rfl; simp at hlt)
      obtain ⟨⟨x, y⟩, hget⟩ : ∃ t, L[k]? = some t := ⟨_, List.getElem?_eq_getElem hlt⟩
      obtain ⟨d0, d1⟩ := hx k _ hget
      have f0 := (hB.cell (p := ⟨b, off + k * 2, none⟩) (Nat.lt_of_lt_of_le hbl hE.out.size)).trans ((hE.out.cell (p := ⟨b, off + k * 2, none⟩) hbl).trans d0)
      have f1 := (hB.cell (p := ⟨b, off + k * 2 + 1, none⟩) (Nat.lt_of_lt_of_le hbl hE.out.size)).trans ((hE.out.cell (p := ⟨b, off + k * 2 + 1, none⟩) hbl).trans d1)
      have hr2 := b2.out.below hB
      have hr3 := hr2.below (box_new wr (Obj.cells #[Value.int .i64 x, Value.int .i64 y] 25))
      have g0 := hr3.c0
      have g1 := hr3.c1
      have hO2 := hidden (hO.below (box_new wr (Obj.cells #[Value.int .i64 x, Value.int .i64 y] 25)))
      have hB2 := hidden (hB.trans ((box_new wr (Obj.cells #[Value.int .i64 x, Value.int .i64 y] 25)).mono hB.size))
      have kC := hidden (hcall.out w2.heap.size k (x, y) _ _ hget hO2.out hB2.out.size)
      dsimp only at f0 f1 kC
      clear d0 d1 hx hI hB hO hO2 hr2 hr3 hcall
      go_wp2_with fail
      refine kC.out.mono ?_
      rintro e w3 ⟨⟨v3, rfl, hO3⟩, hB3⟩
      have hI3 := hidden (show RgOwn w2.heap.size w3 v3 (F (k + 1)) ∧ Below w2.heap.size w2 w3 from ⟨hO3, hB2.out.trans hB3⟩)
      clear hO3 hB3 hB2 kC g0 g1 f0 f1
      go_wp2
      go_roundg (L.length - (k + 1))
      case measure => rw [hg.out]; omega
      case rel => exact ⟨k + 1, hlt, rfl, by simp, hI3⟩
    · obtain rfl : k = L.length := by omega
      have hE2 := hidden (And.intro (hO.mono hE.out.size) (hE.out.trans (hB.mono hE.out.size)))
      clear hO hB hI hcall
      go_wp2
      go_ret
      exact ⟨⟨_, rfl, hE2.out.1⟩, hE2.out.2⟩
theorem take_calls (L : List Rg) (r : Rg) (w : World) (v : Value) (hv : RgAt w v L) (hne : ∀ a ∈ L, a.1 < a.2) (hl : L.length ≤ 100000) : Calls Try.prog 23 #[v, rv r] w fun e w' => (∃ v, e = .returned v ∧ RgAt w' v (takeL L r)) ∧ Below w.heap.size w w' := by
  by_cases h : r.2 ≤ r.1
  · exact take_same L r w v hv h
  · exact (take_own L r w v hv hne hl h).mono fun e w' ⟨⟨v', h1, h2⟩, h3⟩ => ⟨⟨v', h1, h2.at⟩, h3⟩
end Go.Proofs.Ytfnfhabepadikaa
