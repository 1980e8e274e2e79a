/- version.Compare, as the tokens' lists have it. -/
import Derived.Test.YtnlcaabkbnppkaaDoorV3
namespace Go.Proofs.YtnlcaabkbnppkaaDoor
open Go Go.RowKit
set_option maxRecDepth 100000

theorem next_len (x : List UInt8) : (nextB x).2.length ≤ x.length := by
  rcases next_toks x with ⟨_, h, _⟩ | ⟨_, _, h⟩
  · rw [h]; exact Nat.zero_le _
  · omega
/-- A token in a cell that may be written. -/
structure TkBox (w : World) (b : Nat) (t : Tok) : Prop where
  tk : TkAt w b t
  fz : ∀ j, w.frozen? ⟨b, j, none⟩ = false
theorem TkBox.keep {w w' : World} {b : Nat} {t : Tok} {bs : List Nat} (h : TkBox w b t) (ha : Apart bs w w') (hn : b ∉ bs) : TkBox w' b t := ⟨h.tk.keep ha hn, fun j => (ha.frozen (p := ⟨b, j, none⟩) h.tk.lt hn).trans (h.fz j)⟩
theorem TkBox.below {w w' : World} {b : Nat} {t : Tok} (h : TkBox w b t) (hb : Below w.heap.size w w') : TkBox w' b t := h.keep (Apart.of_below (bs := []) hb) (by simp)
theorem tk_apart (w : World) (b : Nat) (x y : Value) : Apart [b] w ((w.setCell ⟨b, 0, none⟩ x).setCell ⟨b, 1, none⟩ y) := ((Apart.refl [b] w).setCell (p := ⟨b, 0, none⟩) (by simp) x).setCell (p := ⟨b, 1, none⟩) (by simp) y
theorem TkBox.stored {w : World} {b : Nat} {t : Tok} (h : TkBox w b t) (k : Nat) (s : List UInt8) : TkBox ((w.setCell ⟨b, 0, none⟩ (.int .i64 (k : Int))).setCell ⟨b, 1, none⟩ (.string (mkB s))) b (k, s) := by
  have h0 := h.tk.c0
  have h1 := h.tk.c1
  have e1 : (w.setCell ⟨b, 0, none⟩ (.int .i64 (k : Int))).cell? ⟨b, 1, none⟩ = some (.string (mkB t.2)) := (World.cell?_setCell_other _ _ _ _ (by simp)).trans h1
  refine ⟨⟨(World.cell?_setCell_other _ _ _ _ (by simp)).trans (World.cell?_setCell_same' _ _ _ (by rw [h0]; rfl)), World.cell?_setCell_same' _ _ _ (by rw [e1]; rfl)⟩, fun j => ?_⟩
  have := h.fz j
  simpa using this
theorem TkBox.new (w : World) (o : Obj) (ho : o = .cells #[.int .i64 0, .string ⟨#[]⟩] 32) : TkBox (w.alloc o) w.heap.size (0, []) := by
  subst ho
  exact ⟨⟨by simp, by simp; rfl⟩, by simp⟩
set_option maxHeartbeats 4000000 in
theorem compare_calls (a b : List UInt8) (w : World) (ha : a.length ≤ 1000000) (hb : b.length ≤ 1000000) : Calls Tryd.prog 10 #[.string (mkB a), .string (mkB b)] w fun e w' => e = .returned (.int .i64 (cmpV a b)) ∧ Below w.heap.size w w' := by
  replace ha := hidden ha
  replace hb := hidden hb
  go_enter Tryd.func10, Tryd.ntmps10
  go_wp2_with fail
  go_loopg [0, 1] a.length (fun g sa sb wr => ∃ x y : List UInt8, sa = .string (mkB x) ∧ sb = .string (mkB y) ∧ g = x.length ∧ x.length ≤ 1000000 ∧ y.length ≤ 1000000 ∧ cmpV a b = cmpV x y ∧ Below w.heap.size w wr)
  case atStart => exact ⟨a, b, rfl, rfl, rfl, ha.out, hb.out, rfl, Below.refl _ _⟩
  case round =>
    obtain ⟨x, y, rfl, rfl, hg, hx, hy, he, hB⟩ := hrel
    have hstep := hidden (cmp_step x y)
    have kN := hidden (fun w => next_calls x w hx)
    have kM := hidden (fun w => next_calls y w hy)
    have hlx := next_len x
    have hly := next_len y
    replace hg := hidden hg
    replace he := hidden he
    obtain ⟨p, hp⟩ : ∃ p, (nextB x).1 = p := ⟨_, rfl⟩
    obtain ⟨q, hq⟩ : ∃ q, (nextB y).1 = q := ⟨_, rfl⟩
    obtain ⟨x', hx'⟩ : ∃ r, (nextB x).2 = r := ⟨_, rfl⟩
    obtain ⟨y', hy'⟩ : ∃ r, (nextB y).2 = r := ⟨_, rfl⟩
    rw [hp, hq, hx', hy'] at hstep
    rw [hp, hx'] at kN
    rw [hq, hy'] at kM
    rw [hx'] at hlx
    rw [hy'] at hly
    have hlx' := hidden (Nat.le_trans hlx hx)
    have hly' := hidden (Nat.le_trans hly hy)
    clear hp hq hx' hy' hlx hly hx hy
    have kH := hidden (fun w => hold_calls p q w)
    obtain ⟨n, hn⟩ : ∃ n, holdB p q = n := ⟨_, rfl⟩
    rw [hn] at kH hstep
    clear hn
    obtain ⟨k, s⟩ := p
    obtain ⟨l, t⟩ := q
    unfold tokV at kN kM kH
    dsimp only at kN kM kH hstep
    replace hB := hidden hB
    obtain ⟨w0, hw0⟩ : ∃ w0, (wr.alloc (Obj.cells #[Value.int IntKind.i64 0, Value.string { data := #[] }] 32)).alloc (Obj.cells #[Value.int IntKind.i64 0, Value.string { data := #[] }] 32) = w0 := ⟨_, rfl⟩
    have b1 : TkBox w0 wr.heap.size (0, []) := by rw [← hw0]; exact (TkBox.new wr _ rfl).below ((Below.refl _ _).alloc (Nat.le_refl _) _)
    have b2 : TkBox w0 (wr.heap.size + 1) (0, []) := by rw [← hw0]; have := TkBox.new (wr.alloc (Obj.cells #[Value.int IntKind.i64 0, Value.string { data := #[] }] 32)) _ rfl; simpa using this
    have hB0 : Below wr.heap.size wr w0 := by rw [← hw0]; exact ((Below.refl wr.heap.size wr).alloc (Nat.le_refl _) _).alloc (by simp) _
    have hsz : wr.heap.size + 2 ≤ w0.heap.size := by rw [← hw0]; simp
    replace hw0 := hidden hw0
    go_wp2_with fail
    rw [hw0.out]
    refine (kN.out _).mono ?_
    rintro e w1 ⟨rfl, hb1⟩
    have b11 := b1.below hb1
    have b12 := b2.below hb1
    have c10 := b11.tk.c0
    have c11 := b11.tk.c1
    have f11 := b11.fz 0
    have f12 := b11.fz 1
    obtain ⟨w2, hw2⟩ : ∃ w2, (w1.setCell ⟨wr.heap.size, 0, none⟩ (.int .i64 (k : Int))).setCell ⟨wr.heap.size, 1, none⟩ (.string (mkB s)) = w2 := ⟨_, rfl⟩
    have b21 : TkBox w2 wr.heap.size (k, s) := by rw [← hw2]; exact b11.stored k s
    have a12 : Apart [wr.heap.size] w1 w2 := by rw [← hw2]; exact tk_apart _ _ _ _
    have b22 := b12.keep a12 (by simp)
    have hB2 := (hB0.trans (hb1.mono (by omega))).trans (a12.below (B := wr.heap.size) (by simp) (by have := hb1.size; omega))
    have hz2 : wr.heap.size + 2 ≤ w2.heap.size := by have := hb1.size; have := a12.size; omega
    replace b21 := hidden b21
    replace b22 := hidden b22
    replace hB2 := hidden hB2
    replace hw2 := hidden hw2
    replace hz2 := hidden hz2
    clear b1 b2 hB0 hsz hb1 b11 b12 a12 kN hw0
    go_wp2_with fail
    rw [hw2.out]
    clear c10 c11 f11 f12 hw2
    refine (kM.out _).mono ?_
    rintro e w3 ⟨rfl, hb3⟩
    have b31 := b21.out.below hb3
    have b32 := b22.out.below hb3
    have c10 := b32.tk.c0
    have c11 := b32.tk.c1
    have f11 := b32.fz 0
    have f12 := b32.fz 1
    obtain ⟨w4, hw4⟩ : ∃ w2, (w3.setCell ⟨wr.heap.size + 1, 0, none⟩ (.int .i64 (l : Int))).setCell ⟨wr.heap.size + 1, 1, none⟩ (.string (mkB t)) = w2 := ⟨_, rfl⟩
    have b42 : TkBox w4 (wr.heap.size + 1) (l, t) := by rw [← hw4]; exact b32.stored l t
    have a34 : Apart [wr.heap.size + 1] w3 w4 := by rw [← hw4]; exact tk_apart _ _ _ _
    have b41 := b31.keep a34 (by simp)
    have hB4 := (hB2.out.trans (hb3.mono (by have := hz2.out; omega))).trans (a34.below (B := wr.heap.size) (by simp) (by have := hb3.size; have := hz2.out; omega))
    replace hB4 := hidden hB4
    replace hw4 := hidden hw4
    have d0 := b41.tk.c0
    have d1 := b41.tk.c1
    have d2 := b42.tk.c0
    have d3 := b42.tk.c1
    clear b31 b32 hb3 a34 kM b41 b42 hB2 b21 b22
    go_upto_region 4 with fail
    rw [hw4.out]
    clear c10 c11 f11 f12 hw4
    try dsimp only at d0 d1 d2 d3
    go_wp2_with fail
    refine (kH.out _).mono ?_
    rintro e w5 ⟨rfl, hb5⟩
    have g0 := (hb5.cell (p := ⟨wr.heap.size, 0, none⟩) (lt_of_cell (a := ⟨wr.heap.size, 0, none⟩) d0)).trans d0
    have hB5 := hidden (hB.out.trans ((hB4.out.trans (hb5.mono hB4.out.size)).mono hB.out.size))
    clear kH d0 d1 d2 d3 hb5 hB4 hB
    by_cases hn : n = 0
    · by_cases hk : (k : Int) = 1
      · have hv := hidden (show cmpV a b = n by rw [he.out]; exact hstep.out.1 (Or.inr (by omega)))
        go_wp2
        go_ret
        exact ⟨by rw [hv.out, hn]; rfl, hB5.out⟩
      · have hv := hidden (hstep.out.2 hn (by omega))
        go_wp2
        go_roundg x'.length
        case measure => rw [hg.out]; exact hv.out.2.1
        case rel => exact ⟨x', y', rfl, rfl, rfl, hlx'.out, hly'.out, he.out.trans hv.out.1, hB5.out⟩
    · have hv := hidden (show cmpV a b = n by rw [he.out]; exact hstep.out.1 (Or.inl hn))
      go_wp2
      go_ret
      exact ⟨by rw [hv.out]; rfl, hB5.out⟩
end Go.Proofs.YtnlcaabkbnppkaaDoor
