/- What every statement of the layer ends with. -/
import Derived.Test.YtfnfhabepadikaaKB2
import Derived.Test.YtfnfhabepadikaaKB3
namespace Go.Proofs.Ytfnfhabepadikaa
open Go Go.RowKit
set_option maxRecDepth 100000

theorem cleanL_self {c : List Rg} (h : OkL c) (hc : Cln c) : cleanL c = c := (cleanL_is h).unique (IsCl.self hc)
theorem rg_cells (w : World) (b : Nat) (L : List Rg) (n cap : Nat) (hn : n = L.length) (hcap : n ≤ cap) (hb : b < w.heap.size) (h : ∀ k x, L[k]? = some x → w.cell? ⟨b, k * 2, none⟩ = some (.int .i64 x.1) ∧ w.cell? ⟨b, k * 2 + 1, none⟩ = some (.int .i64 x.2)) : RgAt w (.slice (some ⟨b, 0, none⟩) n cap) L := by
  subst hn
  exact ⟨_, cap, rfl, hcap, fun _ => ⟨b, 0, rfl, hb, fun k x hk => by rw [Nat.zero_add]; exact h k x hk⟩⟩
theorem rg_lit1 (w : World) (x y : Int) : RgAt (w.alloc (Obj.cells #[Value.int .i64 x, Value.int .i64 y] 25)) (.slice (some ⟨w.heap.size, 0, none⟩) 1 1) [(x, y)] :=
  rg_cells _ _ _ _ _ rfl (Nat.le_refl _) (by simp) fun k z hk => by
    match k with
    | 0 => obtain rfl := Option.some.inj hk; exact ⟨by simp, by simp⟩
    | k + 1 => simp at hk
theorem rg_lit2 (w : World) (x y p q : Int) : RgAt (w.alloc (Obj.cells #[Value.int .i64 x, Value.int .i64 y, Value.int .i64 p, Value.int .i64 q] 25)) (.slice (some ⟨w.heap.size, 0, none⟩) 2 2) [(x, y), (p, q)] :=
  rg_cells _ _ _ _ _ rfl (Nat.le_refl _) (by simp) fun k z hk => by
    match k with
    | 0 => obtain rfl := Option.some.inj hk; exact ⟨by simp, by simp⟩
    | 1 => obtain rfl := Option.some.inj hk; exact ⟨by simp, by simp⟩
    | k + 2 => simp at hk
theorem int_cells (w : World) (b : Nat) (L : List Int) (n cap : Nat) (hn : n = L.length) (hcap : n ≤ cap) (hb : b < w.heap.size) (h : ∀ k x, L[k]? = some x → w.cell? ⟨b, k, none⟩ = some (.int .i64 x)) : IntAt w (.slice (some ⟨b, 0, none⟩) n cap) L := by
  subst hn
  exact ⟨_, cap, rfl, hcap, fun _ => ⟨b, 0, rfl, hb, fun k x hk => by rw [Nat.zero_add]; exact h k x hk⟩⟩
theorem int_lit2 (w : World) (x y : Int) (n : Nat) (hn : w.heap.size = n) : IntAt (w.alloc (Obj.cells #[Value.int .i64 x, Value.int .i64 y] 3)) (.slice (some ⟨n, 0, none⟩) 2 2) [x, y] := by
  subst hn
  exact int_cells _ _ _ _ _ rfl (Nat.le_refl _) (by simp) fun k z hk => by
    match k with
    | 0 => obtain rfl := Option.some.inj hk; simp
    | 1 => obtain rfl := Option.some.inj hk; simp
    | k + 2 => simp at hk
theorem aw1 : allR (cleanL [(3, 100)]) [20, 4] = some [16, 48] := by
  rw [cleanL_self ((okB_iff _).1 (by decide)) (by unfold Cln Cln; simp)]
  decide
theorem aw2 : findL (cleanL [(1, 15), (30, 40)]) 5 = some 32 := by
  rw [cleanL_self ((okB_iff _).1 (by decide)) (by unfold Cln Cln Cln; simp)]
  decide
set_option maxHeartbeats 2000000 in
theorem awake_calls (w : World) : Calls Try.prog 10 #[] w fun e w' => e = .returned (.bool true) ∧ Below w.heap.size w w' := by
  have kA := hidden (fun (wx : World) (v u : Value) (h1 : RgAt wx v [(3, 100)]) (h2 : IntAt wx u [20, 4]) => all_calls [(3, 100)] [20, 4] wx v u h1 h2 (by decide) (by decide))
  rw [aw1] at kA
  have kF := hidden (fun (wx : World) (v : Value) (h1 : RgAt wx v [(1, 15), (30, 40)]) => pfind_calls [(1, 15), (30, 40)] 5 wx v h1 (by decide))
  rw [aw2] at kF
  dsimp only [Option.getD, Option.isSome] at kA kF
  have h1 := hidden ((rg_lit1 w 3 100).below (box_new _ (.cells #[.int .i64 20, .int .i64 4] 3)))
  have h2 := hidden (int_lit2 (w.alloc (Obj.cells #[Value.int .i64 3, Value.int .i64 100] 25)) 20 4 (w.heap.size + 1) (by simp))
  have hB := hidden ((box_new w (Obj.cells #[Value.int .i64 3, Value.int .i64 100] 25)).trans ((box_new _ (.cells #[.int .i64 20, .int .i64 4] 3)).mono (box_new w _).size))
  go_enter Try.func10, Try.ntmps10
  go_wp2_with fail
  refine (kA.out _ _ _ h1.out h2.out).mono ?_
  rintro e w2 ⟨⟨v2, rfl, hA2⟩, hB2⟩
  have hB3 := hidden (hB.out.trans (hB2.mono hB.out.size))
  have hA3 := hidden (hA2.below (box_new w2 (.cells #[.int .i64 1, .int .i64 15, .int .i64 30, .int .i64 40] 25)))
  have hB4 := hidden (hB3.out.trans ((box_new w2 (.cells #[.int .i64 1, .int .i64 15, .int .i64 30, .int .i64 40] 25)).mono hB3.out.size))
  clear h1 h2 hA2 hB2 hB kA hB3
  go_wp2_with fail
  refine (kF.out _ _ (rg_lit2 w2 1 15 30 40)).mono ?_
  rintro e w3 ⟨rfl, hB5⟩
  have hA5 := hidden ((hA3.out.below hB5).below (box_new w3 (.cells #[.int .i64 16, .int .i64 48] 3)))
  have hB6 := hidden ((hB4.out.trans (hB5.mono hB4.out.size)).trans ((box_new w3 (.cells #[.int .i64 16, .int .i64 48] 3)).mono (hB4.out.trans (hB5.mono hB4.out.size)).size))
  clear hA3 hB5 hB4 kF
  go_wp2_with fail
  refine (ints_calls [16, 48] [16, 48] _ _ _ hA5.out (int_lit2 w3 16 48 _ rfl) (by decide) (by decide)).mono ?_
  rintro e w4 ⟨rfl, hB7⟩
  have hE := hidden (hB6.out.trans (hB7.mono hB6.out.size))
  clear hA5 hB7 hB6
  rw [show decide (([16, 48] : List Int) = [16, 48]) = true by decide]
  go_wp2
  go_ret
  exact ⟨rfl, hE.out⟩
end Go.Proofs.Ytfnfhabepadikaa
