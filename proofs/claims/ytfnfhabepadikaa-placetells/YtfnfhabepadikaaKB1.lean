/- Find, Take; numbers as they lie. -/
import Derived.Test.YtfnfhabepadikaaKA
import Derived.Test.YtfnfhabepadikaaKB0
namespace Go.Proofs.Ytfnfhabepadikaa
open Go Go.RowKit
set_option maxRecDepth 100000

/-- A list of numbers as it lies. -/
def IntAt (w : World) (v : Value) (l : List Int) : Prop := ∃ a cap, v = .slice a l.length cap ∧ l.length ≤ cap ∧ (l ≠ [] → ∃ b off, a = some ⟨b, off, none⟩ ∧ b < w.heap.size ∧ ∀ k x, l[k]? = some x → w.cell? ⟨b, off + k, none⟩ = some (.int .i64 x))
theorem IntAt.nil (w : World) (a : Option Addr) (cap : Nat) : IntAt w (.slice a 0 cap) [] := ⟨a, cap, rfl, Nat.zero_le _, fun h => absurd rfl h⟩
theorem IntAt.below {w w' : World} {v : Value} {l : List Int} (h : IntAt w v l) (hb : Below w.heap.size w w') : IntAt w' v l := by
  obtain ⟨a, cap, h1, h2, h3⟩ := h
  refine ⟨a, cap, h1, h2, fun hn => ?_⟩
  obtain ⟨b, off, h4, h5, h6⟩ := h3 hn
  exact ⟨b, off, h4, Nat.lt_of_lt_of_le h5 hb.size, fun k x hk => (hb.cell (p := ⟨b, off + k, none⟩) h5).trans (h6 k x hk)⟩
theorem Kept.at {base : Nat} {w : World} {v : Value} {ks : List Int} (h : Kept base w v ks) : IntAt w v ks := by
  have hl : ∃ a cap, v = .slice a ks.length cap ∧ ks.length ≤ cap := by
    rcases h.row.2 with ⟨rfl, h0⟩ | ⟨g', cap', cur, rfl, h1, hh, h2, h3, h4, h5⟩
    · exact ⟨none, 0, by rw [h0], by omega⟩
    · exact ⟨_, cap', rfl, by omega⟩
  obtain ⟨a, cap, rfl, hc⟩ := hl
  obtain ⟨a', cap', he, hx⟩ := h.form
  obtain ⟨rfl, -, rfl⟩ := Value.slice.inj he
  refine ⟨a, cap, rfl, hc, fun hn => ?_⟩
  obtain ⟨b, rfl, -, h2, h3⟩ := hx hn
  refine ⟨b, 0, rfl, h2, fun k x hk => ?_⟩
  obtain ⟨hkl, hkx⟩ := List.getElem?_eq_some_iff.1 hk
  rw [Nat.zero_add, h3 k hkl]
  simp [List.getD, hk]
theorem pfind_calls (L : List Rg) (size : Int) (w : World) (v : Value) (hv : RgAt w v L) (hl : L.length ≤ 100000) : Calls Try.prog 9 #[v, .int .i64 size] w fun e w' => e = .returned (.tuple #[.int .i64 ((findL (cleanL L) size).getD 0), .bool (findL (cleanL L) size).isSome]) ∧ Below w.heap.size w w' := by
  have kC := hidden (clean_calls L w v hv hl)
  have kF := hidden (fun (wx : World) (vx : Value) (h : RgAt wx vx (cleanL L)) => find_calls (cleanL L) size wx vx h (held_clean L).tame (by have := cleanL_len L; omega))
  unfold findV at kF
  generalize (findL (cleanL L) size).getD 0 = g1 at kF ⊢
  generalize (findL (cleanL L) size).isSome = g2 at kF ⊢
  generalize cleanL L = C at kC kF
  clear hv
  go_enter Try.func9, Try.ntmps9
  go_wp2_with fail
  refine kC.out.mono ?_
  rintro e w1 ⟨⟨v1, rfl, hA1⟩, hB1⟩
  have kF1 := hidden (kF.out w1 v1 hA1)
  replace hB1 := hidden hB1
  clear kC kF hA1
  go_wp2_with fail
  refine kF1.out.mono ?_
  rintro e w2 ⟨rfl, hB2⟩
  have hE := hidden (hB1.out.trans (hB2.mono hB1.out.size))
  clear hB1 hB2 kF1
  go_wp2
  go_ret2
  exact ⟨rfl, hE.out⟩
theorem ptake_calls (L : List Rg) (r : Rg) (w : World) (v : Value) (hv : RgAt w v L) (hl : L.length ≤ 100000) : Calls Try.prog 18 #[v, rv r] w fun e w' => (∃ v, e = .returned v ∧ RgAt w' v (takeL (cleanL L) r)) ∧ Below w.heap.size w w' := by
  have kT := hidden (fun (wx : World) (vx : Value) (h : RgAt wx vx (cleanL L)) => take_calls (cleanL L) r wx vx h (fun a ha => (cleanL_cln L).ne a ha) (by have := cleanL_len L; omega))
  obtain ⟨p, q⟩ := r
  unfold rv at *
  dsimp only at *
  have kC := hidden (fun (wx : World) (hx : Below w.heap.size w wx) => clean_calls L wx v (hv.below hx) hl)
  generalize takeL (cleanL L) (p, q) = R at kT ⊢
  generalize cleanL L = C at kC kT
  have hbx := box_at w p q
  have hBx := hidden (box_new w (Obj.cells #[Value.int .i64 p, Value.int .i64 q] 25))
  clear hv
  go_enter Try.func18, Try.ntmps18
  go_upto_region 1 with fail
  generalize w.alloc (Obj.cells #[Value.int .i64 p, Value.int .i64 q] 25) = w1 at hbx hBx ⊢
  have c0 := hbx.c0
  have c1 := hbx.c1
  have kB := hidden (fun (wx : World) (hx : Below w1.heap.size w1 wx) => hbx.below hx)
  have kC1 := hidden (fun (wx : World) (hx : Below w1.heap.size w1 wx) => kC.out wx (hBx.out.trans (hx.mono hBx.out.size)))
  have hd := hidden ((Below.refl w1.heap.size w1).drew)
  clear kC hbx
  go_region_with (first
    | (go_at_call 16; refine (kC1.out _ (by first | exact hd.out | exact Below.refl _ _)).mono ?_; rintro e w2 ⟨⟨v2, rfl, hA2⟩, hB2⟩; have hB3 := hidden (hd.out.trans (hB2.mono hd.out.size)); have g0 := (kB.out _ hB3.out).c0; have g1 := (kB.out _ hB3.out).c1; have kT2 := hidden (kT.out _ _ hA2); clear hA2 hB2)
    | (go_at_call 23; refine (kT2.out).mono ?_; rintro e w3 ⟨⟨v3, rfl, hA3⟩, hB4⟩; have hA3 := hidden hA3; have hB4 := hidden hB4))
  all_goals
    have hE := hidden (hBx.out.trans ((hB3.out.trans (hB4.out.mono hB3.out.size)).mono hBx.out.size))
    go_wp2
    go_ret
    exact ⟨⟨_, rfl, hA3.out⟩, hE.out⟩
end Go.Proofs.Ytfnfhabepadikaa
