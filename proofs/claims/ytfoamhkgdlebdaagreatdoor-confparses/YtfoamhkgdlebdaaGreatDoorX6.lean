/- conf.set, setBlob, take: what a line lays into an entry. -/
import Derived.Test.YtfoamhkgdlebdaaGreatDoorX5
namespace Go.Proofs.YtfoamhkgdlebdaaGreatDoor
open Go.RowKit Go.Extern.Stop Go.Stop Go.Extern
set_option maxRecDepth 100000

theorem setCell_self {w : World} {b o : Nat} {v : Value} (h : w.cell? ⟨b, o, none⟩ = some v) : w.setCell ⟨b, o, none⟩ v = w := by
  unfold World.cell? at h
  have hh : w.heap.modify b (fun
      | .cells c elem frozen => .cells (c.setIfInBounds o v) elem frozen
      | ob => ob) = w.heap := by
    apply Array.ext_getElem?
    intro i
    rw [Array.getElem?_modify]
    by_cases hi : b = i
    · subst hi
      rw [if_pos rfl]
      cases hb : w.heap[b]? with
      | none => rfl
      | some ob =>
        cases ob with
        | cells c elem frozen =>
          simp [hb] at h
          have : c.setIfInBounds o v = c := by
            apply Array.ext_getElem?
            intro j
            rw [Array.getElem?_setIfInBounds]
            by_cases hj : o = j
            · subst hj
              rw [if_pos rfl]
              obtain ⟨hlt, -⟩ := Array.getElem?_eq_some_iff.1 h
              rw [if_pos hlt, h]
            · rw [if_neg hj]
          simp [this]
        | _ => rfl
    · rw [if_neg hi]
  unfold World.setCell
  simp only [Option.isSome_none, Bool.false_eq_true, if_false]
  exact congrArg (fun hp => ({ w with heap := hp } : World)) hh
/-- A text laid into a cell: nothing else that was there has turned. -/
structure Put (w w' : World) (g j : Nat) (x : List UInt8) : Prop where
  ap : Apart [g] w w'
  hp : w'.heap[g]? = (w.setCell ⟨g, j, none⟩ (.string (mkB x))).heap[g]?
theorem Put.cell {w w' : World} {g j : Nat} {x : List UInt8} (h : Put w w' g j x) {u : Value} (hc : w.cell? ⟨g, j, none⟩ = some u) : w'.cell? ⟨g, j, none⟩ = some (.string (mkB x)) :=
  (cell_heap h.hp j).trans (World.cell?_setCell_same' _ _ _ (by rw [hc]; rfl))
theorem Put.other {w w' : World} {g j : Nat} {x : List UInt8} (h : Put w w' g j x) {k : Nat} (hk : k ≠ j) : w'.cell? ⟨g, k, none⟩ = w.cell? ⟨g, k, none⟩ :=
  (cell_heap h.hp k).trans (World.cell?_setCell_other _ _ _ _ (by intro e; injection e; omega))
theorem Put.frozen {w w' : World} {g j : Nat} {x : List UInt8} (h : Put w w' g j x) (k : Nat) : w'.frozen? ⟨g, k, none⟩ = w.frozen? ⟨g, k, none⟩ :=
  (frozen_heap h.hp k).trans (by simp)
theorem Put.pre {w w1 w' : World} {g j : Nat} {x : List UInt8} (hb : Below w.heap.size w w1) (hg : g < w.heap.size) (h : Put w1 w' g j x) : Put w w' g j x :=
  ⟨(Apart.of_below hb).trans h.ap, h.hp.trans (set_heap (hb.block g hg) j _)⟩
theorem Put.post {w w1 w' : World} {g j : Nat} {x : List UInt8} (h : Put w w1 g j x) (hg : g < w.heap.size) (hb : Below w1.heap.size w1 w') : Put w w' g j x :=
  ⟨h.ap.trans (Apart.of_below hb), (hb.block g (Nat.lt_of_lt_of_le hg h.ap.size)).trans h.hp⟩
theorem set_calls (g j : Nat) (old t : List UInt8) (w : World) (hc : w.cell? ⟨g, j, none⟩ = some (.string (mkB old))) (hf : w.frozen? ⟨g, j, none⟩ = false) (ht : t.length ≤ 100000) :
    Calls Tryz.prog 48 #[.pointer (some ⟨g, j, none⟩), .string (mkB t)] w fun e w' => e = .returned (.bool (putT old t)) ∧ Put w w' g j (if putT old t then t else old) := by
  have kC := hidden (clone_calls t w ht)
  have hself := hidden (show Put w w g j old from ⟨Apart.refl _ _, by rw [setCell_self hc]⟩)
  have hg : g < w.heap.size := lt_of_cell (a := ⟨g, j, none⟩) hc
  have ho : (mkB old).toList.isEmpty = old.isEmpty := by rw [mk_toList]
  have hn : (mkB t).toList.isEmpty = t.isEmpty := by rw [mk_toList]
  unfold putT nE
  generalize old.isEmpty = bo at ho ⊢
  generalize t.isEmpty = bt at hn ⊢
  cases bo
  · go_enter Tryz.func48, Tryz.ntmps48
    go_wp2
    go_ret
    exact ⟨rfl, by simpa using hself.out⟩
  · cases bt
    · go_enter Tryz.func48, Tryz.ntmps48
      go_wp2_with fail
      refine kC.out.mono ?_
      rintro e w1 ⟨rfl, hb⟩
      have c1 := (hb.cell (p := ⟨g, j, none⟩) hg).trans hc
      have f1 := (hb.frozen (p := ⟨g, j, none⟩) hg).trans hf
      have hP := hidden (show Put w (w1.setCell ⟨g, j, none⟩ (.string (mkB t))) g j t from Put.pre hb hg ⟨(Apart.refl _ _).setCell (by simp) _, rfl⟩)
      clear hb
      go_wp2
      go_ret
      exact ⟨rfl, by simpa using hP.out⟩
    · go_enter Tryz.func48, Tryz.ntmps48
      go_wp2
      go_ret
      exact ⟨rfl, by simpa using hself.out⟩
/-- Two texts, one behind the other. -/
structure Two (w w' : World) (g j : Nat) (b : Bl) : Prop where
  ap : Apart [g] w w'
  hp : w'.heap[g]? = ((w.setCell ⟨g, j, none⟩ (.string (mkB b.1))).setCell ⟨g, j + 1, none⟩ (.string (mkB b.2))).heap[g]?
theorem Two.of {w w1 w' : World} {g j : Nat} {b : Bl} (h1 : Put w w1 g j b.1) (h2 : Put w1 w' g (j + 1) b.2) : Two w w' g j b :=
  ⟨h1.ap.trans h2.ap, h2.hp.trans (set_heap h1.hp _ _)⟩
theorem Two.post {w w1 w' : World} {g j : Nat} {b : Bl} (h : Two w w1 g j b) (hg : g < w.heap.size) (hb : Below w1.heap.size w1 w') : Two w w' g j b :=
  ⟨h.ap.trans (Apart.of_below hb), (hb.block g (Nat.lt_of_lt_of_le hg h.ap.size)).trans h.hp⟩
theorem Two.pre {w w1 w' : World} {g j : Nat} {b : Bl} (hb : Below w.heap.size w w1) (hg : g < w.heap.size) (h : Two w1 w' g j b) : Two w w' g j b :=
  ⟨(Apart.of_below hb).trans h.ap, h.hp.trans (set_heap (set_heap (hb.block g hg) j _) _ _)⟩
/-- What setBlob leaves. -/
def SetEnd (w w' : World) (g j : Nat) (r : Option Bl) : Prop := ∃ nb : Bl, Two w w' g j nb ∧ ∀ x, r = some x → nb = x
set_option maxHeartbeats 4000000 in
theorem setBlob_calls (g j : Nat) (b : Bl) (t : List UInt8) (w : World) (h0 : w.cell? ⟨g, j, none⟩ = some (.string (mkB b.1))) (h1 : w.cell? ⟨g, j + 1, none⟩ = some (.string (mkB b.2))) (hf : ∀ k, w.frozen? ⟨g, k, none⟩ = false) (ht : t.length ≤ 100000) :
    Calls Tryz.prog 47 #[.pointer (some ⟨g, j, none⟩), .string (mkB t)] w fun e w' => e = .returned (.bool (setB b t).isSome) ∧ SetEnd w w' g j (setB b t) := by
  have hg : g < w.heap.size := lt_of_cell (a := ⟨g, j, none⟩) h0
  have hl := sp_len t
  have kC := hidden (cut_calls t w ht)
  obtain ⟨r, hr⟩ : ∃ r, setB b t = r := ⟨_, rfl⟩
  rw [hr]
  rw [setB] at hr
  generalize (cutSp t).1 = n at hl kC hr ⊢
  generalize (cutSp t).2 = s at hl kC hr ⊢
  have kS := hidden (fun (wx : World) (hx : Below w.heap.size w wx) => set_calls g j b.1 n wx ((hx.cell (p := ⟨g, j, none⟩) hg).trans h0) ((hx.frozen (p := ⟨g, j, none⟩) hg).trans (hf _)) (by omega))
  have kT := hidden (fun (wx wy : World) (hx : Below w.heap.size w wx) (u : List UInt8) (hy : Put wx wy g j u) => set_calls g (j + 1) b.2 s wy ((hy.other (by omega)).trans ((hx.cell (p := ⟨g, j + 1, none⟩) hg).trans h1)) ((hy.frozen _).trans ((hx.frozen (p := ⟨g, j + 1, none⟩) hg).trans (hf _))) (by omega))
  have k0 := hidden (fun (wx : World) (hx : Below w.heap.size w wx) => (hx.cell (p := ⟨g, j, none⟩) hg).trans h0)
  have k1 := hidden (fun (wx : World) (hx : Below w.heap.size w wx) => (hx.cell (p := ⟨g, j + 1, none⟩) hg).trans h1)
  obtain ⟨p1, hp1⟩ : ∃ p, putT b.1 n = p := ⟨_, rfl⟩
  obtain ⟨p2, hp2⟩ : ∃ p, putT b.2 s = p := ⟨_, rfl⟩
  obtain ⟨p3, hp3⟩ : ∃ p, blobB n s = p := ⟨_, rfl⟩
  obtain ⟨q, hq⟩ : ∃ q, r.isSome = q := ⟨_, rfl⟩
  have hqv : q = (p1 && p2 && p3) := by rw [← hq, ← hr, hp1, hp2, hp3]; cases p1 <;> cases p2 <;> cases p3 <;> rfl
  rw [hq]
  replace hr := hidden (show r = if (p1 && p2 && p3) = true then some (n, s) else none by rw [← hr, hp1, hp2, hp3])
  rw [hp1] at kS
  rw [hp2] at kT
  replace hp3 := hidden hp3
  clear h0 h1 hf hl ht hp1 hp2 hq
  subst hqv
  go_enter Tryz.func47, Tryz.ntmps47
  go_upto_region 2 with (refine kC.out.mono ?_; rintro e w1 ⟨⟨tt, rfl⟩, hB1⟩; replace hB1 := hidden hB1)
  have kS1 := hidden (kS.out _ hB1.out)
  clear kS kC
  cases p1
  · go_wp2_with (refine kS1.out.mono ?_; rintro e w2 ⟨rfl, hP⟩; replace hP := hidden hP)
    go_ret
    have hP' : Put w1 w2 g j b.1 := by simpa using hP.out
    refine ⟨rfl, (b.1, b.2), Two.pre hB1.out hg (Two.of (w1 := w2) hP' ⟨Apart.refl _ _, ?_⟩), fun x hx => by rw [hr.out] at hx; simp at hx⟩
    rw [setCell_self ((hP'.other (by omega)).trans (k1.out _ hB1.out))]
  · go_wp2_with fail
    refine kS1.out.mono ?_
    rintro e w2 ⟨rfl, hP⟩
    have hP' : Put w1 w2 g j n := by simpa using hP
    have c2 := hP'.cell (k0.out _ hB1.out)
    have d2 := (hP'.other (k := j + 1) (by omega)).trans (k1.out _ hB1.out)
    have hg2 : g < w2.heap.size := lt_of_cell (a := ⟨g, j, none⟩) c2
    have kT2 := hidden (kT.out _ _ hB1.out n hP')
    replace hP' := hidden hP'
    clear hP kT kS1 k0 k1
    cases p2
    · clear c2 d2
      go_wp2_with fail
      refine kT2.out.mono ?_
      rintro e w3 ⟨rfl, hQ⟩
      have hQ' : Put w2 w3 g (j + 1) b.2 := by simpa using hQ
      replace hQ' := hidden hQ'
      clear hQ
      go_wp2
      go_ret
      exact ⟨rfl, (n, b.2), Two.pre hB1.out hg (Two.of hP'.out hQ'.out), fun x hx => by rw [hr.out] at hx; simp at hx⟩
    · go_wp2_with fail
      refine kT2.out.mono ?_
      rintro e w3 ⟨rfl, hQ⟩
      have hQ' : Put w2 w3 g (j + 1) s := by simpa using hQ
      have c3 := (hQ'.other (k := j) (by omega)).trans c2
      have d3 := hQ'.cell d2
      have kB := hidden (blob_calls (n, s) w3)
      unfold blV at kB
      rw [hp3.out] at kB
      have hT := hidden (show Two w w3 g j (n, s) from Two.pre hB1.out hg (Two.of hP'.out hQ'))
      clear hQ hQ' c2 d2 kT2
      go_wp2_with fail
      refine kB.out.mono ?_
      rintro e w4 ⟨rfl, hb4⟩
      have hT4 := hidden (hT.out.post hg hb4)
      clear hb4 hT
      cases p3
      · go_wp2
        go_ret
        exact ⟨rfl, (n, s), hT4.out, fun x hx => by rw [hr.out] at hx; simp at hx⟩
      · go_wp2
        go_ret
        exact ⟨rfl, (n, s), hT4.out, fun x hx => by rw [hr.out] at hx; simpa using hx⟩
end Go.Proofs.YtfoamhkgdlebdaaGreatDoor
