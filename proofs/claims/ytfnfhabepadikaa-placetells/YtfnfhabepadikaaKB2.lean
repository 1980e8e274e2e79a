/- All: several pieces, one behind the other. -/
import Derived.Test.YtfnfhabepadikaaKB1
namespace Go.Proofs.Ytfnfhabepadikaa
open Go Go.RowKit
set_option maxRecDepth 100000

theorem RgAt.heap {w w' : World} {v : Value} {l : List Rg} (h : RgAt w v l) (hs : w.heap.size ≤ w'.heap.size) (hb : ∀ b off n c, v = .slice (some ⟨b, off, none⟩) n c → b < w.heap.size → w'.heap[b]? = w.heap[b]?) : RgAt w' v l := by
  obtain ⟨a, cap, rfl, h2, h3⟩ := h
  refine ⟨a, cap, rfl, h2, fun hn => ?_⟩
  obtain ⟨b, off, rfl, h5, h6⟩ := h3 hn
  have he := hb b off _ _ rfl h5
  refine ⟨b, off, rfl, Nat.lt_of_lt_of_le h5 hs, fun k x hk => ?_⟩
  obtain ⟨c0, c1⟩ := h6 k x hk
  exact ⟨(cell_heap he _).trans c0, (cell_heap he _).trans c1⟩
/-- Two lists that share no memory. -/
def Dj (v u : Value) : Prop := ∀ b off n c, v = .slice (some ⟨b, off, none⟩) n c → some b ≠ u.ownBlock
theorem RgOwn.dj {base : Nat} {w : World} {v u : Value} {l : List Rg} {ks : List Int} {base' : Nat} {w0 : World} (h : RgOwn base w v l) (hk : Kept base' w0 u ks) (hb : w0.heap.size ≤ base) : Dj v u := by
  rintro b off n c rfl hu
  have h1 := (hk.row.lt b hu.symm).2
  have h2 := (h.row.lt b rfl).1
  omega
theorem dj_none (v : Value) : Dj v (.slice none 0 0) := fun b off n c _ h => by cases h
set_option maxHeartbeats 4000000 in
theorem all_own (L : List Rg) (Z : List Int) (w : World) (v u : Value) (hv : RgAt w v L) (hu : IntAt w u Z) (hl : L.length ≤ 100000) (hz : Z.length ≤ 100000) : Calls Try.prog 11 #[v, u] w fun e w' => (∃ v, e = .returned (.tuple #[v, .bool (allR (cleanL L) Z).isSome]) ∧ Kept w.heap.size w' v ((allR (cleanL L) Z).getD [])) ∧ Below w.heap.size w w' := by
  by_cases h16 : 16 < Z.length
  · rw [allR, if_neg (by omega)]
    obtain ⟨a0, cap, rfl, hcap, -⟩ := hu
    have h16' : (16 : Int) < (Z.length : Int) := by omega
    clear hv
    go_enter Try.func11, Try.ntmps11
    go_wp2
    go_ret2
    exact ⟨⟨_, rfl, Kept.nil _ _⟩, Below.refl _ _⟩
  rw [allR, if_pos (by omega)]
  have kC := hidden (clean_calls L w v hv hl)
  have hH := hidden (And.intro (held_clean L) (cleanL_len L))
  generalize cleanL L = C at kC hH ⊢
  obtain ⟨R, hR⟩ : ∃ R, allA C [] Z = R := ⟨_, rfl⟩
  rw [hR]
  replace hR := hidden hR
  have h16' : ¬ (16 : Int) < (Z.length : Int) := by omega
  clear hv
  obtain ⟨a0, cap, rfl, hcap, hc⟩ := hu
  replace hc := hidden hc
  go_enter Try.func11, Try.ntmps11
  go_wp2_with fail
  refine kC.out.mono ?_
  rintro e w1 ⟨⟨v1, rfl, hA1⟩, hB1⟩
  have hI0 := hidden (show RgAt w1 v1 C ∧ Held C ∧ C.length ≤ 32 + 0 ∧ Kept w.heap.size w1 (.slice none 0 0) [] ∧ Dj v1 (.slice none 0 0) ∧ ([] : List Int).length = 0 ∧ allA C [] (Z.drop 0) = R ∧ Below w.heap.size w w1 from ⟨hA1, hH.out.1, hH.out.2, Kept.nil _ _, dj_none _, rfl, hR.out, hB1⟩)
  clear hA1 hB1 hH kC hR
  go_wp2_with fail
  go_loopg [6, 7, 19] Z.length (fun g vl vp si wr => ∃ (k : Nat) (M : List Rg) (ps : List Int), k ≤ Z.length ∧ g = Z.length - k ∧ si = .int .i64 (k : Int) ∧ Hid (RgAt wr vl M ∧ Held M ∧ M.length ≤ 32 + k ∧ Kept w.heap.size wr vp ps ∧ Dj vl vp ∧ ps.length = k ∧ allA M ps (Z.drop k) = R ∧ Below w.heap.size w wr))
  case atStart => exact ⟨0, C, [], Nat.zero_le _, rfl, rfl, hI0⟩
  case round =>
    obtain ⟨k, M, ps, hk, hg, rfl, hI⟩ := hrel
    obtain ⟨hA, hM, hMl, hK, hD, hpl, hR, hB⟩ := hI.out
    replace hg := hidden hg
    by_cases hlt : k < Z.length
    · have hlt' : (k : Int) < (Z.length : Int) := by omega
      obtain ⟨b, off, rfl, hbl, hx⟩ := hc.out (by rintro rfl; simp at hlt)
      obtain ⟨z, hget⟩ : ∃ t, Z[k]? = some t := ⟨_, List.getElem?_eq_getElem hlt⟩
      have f0 := (hB.cell (p := ⟨b, off + k, none⟩) hbl).trans (hx k _ hget)
      have kF := hidden (find_calls M z wr u6 hA hM.tame (by omega))
      cases hf : findL M z with
      | none =>
        have hr := hidden (show R = none by rw [← hR, allA_none hget hf])
        unfold findV at kF
        rw [hf] at kF
        replace hB := hidden hB
        clear hI hA hM hMl hK hpl hR hx hf hD
        go_wp2_with fail
        refine kF.out.mono ?_
        rintro e w2 ⟨rfl, hB2⟩
        have hE := hidden (hB.out.trans (hB2.mono hB.out.size))
        clear hB2 hB kF
        dsimp only [Option.getD, Option.isSome]
        go_wp2
        go_ret2
        rw [hr.out]
        exact ⟨⟨_, rfl, Kept.nil _ _⟩, hE.out⟩
      | some p =>
        obtain ⟨n1, n2, n3⟩ := findL_bounds hM hf
        have hr := hidden (show allA (takeL M (p, upZ (p + max z 1))) (ps ++ [p]) (Z.drop (k + 1)) = R by rw [← hR, allA_some hget hf])
        have kH := hidden (fun wx => held_calls z wx)
        have kU := hidden (fun wx => up_calls (p + max z 1) (by omega) (by omega) wx)
        have hgo := hidden (fun (wx : World) (hx : Below wr.heap.size wr wx) => (show ∃ v3 w3, (Builtin.append_ #[30, 30] 30 #[u7, .slice (some ⟨wx.heap.size, 0, none⟩) 1 1]).run Try.prog (wx.alloc (.cells #[.int .i64 p] 3)) = .ok v3 w3 ∧ Kept w.heap.size w3 v3 (ps ++ [p]) ∧ Below w.heap.size w w3 ∧ RgAt w3 u6 M by
          obtain ⟨v3, w3, q1, q2, q3, q4⟩ := kept_append ((hK.below hx).below (box_new wx (.cells #[.int .i64 p] 3))) ⟨wx.heap.size, 0, none⟩ 1 1 [p] rfl (fun j hj => by
            obtain rfl : j = 0 := by omega
            simp [Addr.add]) (by omega) (by have := hx.size; have := hB.size; simp; omega) 30
          refine ⟨v3, w3, q1, q2, (hB.trans (hx.mono hB.size)).trans (((box_new wx _).mono (by have := hx.size; have := hB.size; omega)).trans q3), ?_⟩
          have hx2 : Below wr.heap.size wr (wx.alloc (.cells #[.int .i64 p] 3)) := hx.trans ((box_new wx _).mono hx.size)
          exact (hA.below hx2).heap q3.size fun b off n c hv hlt => q4 b hlt (hD b off n c hv)))
        have kT := hidden (fun (wx : World) (h : RgAt wx u6 M) => take_own M (p, upZ (p + max z 1)) wx u6 h (fun a ha => hM.1.ne a ha) (by omega) (by have := up_le (p + max z 1); dsimp only; omega))
        have hM2 := hidden (show Held (takeL M (p, upZ (p + max z 1))) ∧ (takeL M (p, upZ (p + max z 1))).length ≤ 32 + (k + 1) from ⟨hM.takes _, by have := take_len1 (p, upZ (p + max z 1)) hM.1; omega⟩)
        have hpl2 := hidden (show (ps ++ [p]).length = k + 1 by rw [List.length_append, hpl]; rfl)
        unfold findV at kF
        rw [hf] at kF
        unfold rv at kT
        dsimp only at kT
        generalize takeL M (p, upZ (p + max z 1)) = M2 at hr kT hM2
        generalize upZ (p + max z 1) = q at kU kT
        have hs : 1 ≤ max z 1 := by omega
        generalize max z 1 = s at *
        replace hB := hidden hB
        clear hI hA hM hMl hR hx hf hK hD hpl
        go_wp2_with fail
        refine kF.out.mono ?_
        rintro e w2 ⟨rfl, hB2⟩
        dsimp only [Option.getD, Option.isSome]
        obtain ⟨v3, w3, hrun, hK3, hB3, hA3⟩ := hgo.out w2 hB2
        have kT3 := hidden (kT.out w3 hA3)
        replace hrun := hidden hrun
        replace hK3 := hidden hK3
        replace hB3 := hidden hB3
        clear hB2 hA3 kF hgo kT hB
        go_wp2_with (first
          | (at_builtin; refine wpList_append_eq _ _ 30 rfl _ _ v3 w3 rfl rfl hrun.out rfl ?_)
          | (go_at_call 25; refine (kH.out _).mono ?_; rintro e w4 ⟨rfl, rfl⟩)
          | (go_at_call 24; refine (kU.out _).mono ?_; rintro e w5 ⟨rfl, rfl⟩)
          | (go_at_call 23; refine kT3.out.mono ?_; rintro e w6 ⟨⟨v6, rfl, hO6⟩, hB6⟩; have hE := hidden (show RgAt w6 v6 M2 ∧ Kept w.heap.size w6 v3 (ps ++ [p]) ∧ Dj v6 v3 ∧ Below w.heap.size w w6 from ⟨hO6.at, hK3.out.below hB6, hO6.dj hK3.out (Nat.le_refl _), hB3.out.trans (hB6.mono hB3.out.size)⟩); clear hO6 hB6 hK3 hB3))
        go_roundg (Z.length - (k + 1))
        case measure => rw [hg.out]; omega
        case rel => exact ⟨k + 1, M2, ps ++ [p], hlt, rfl, by go_num, hidden ⟨hE.out.1, hM2.out.1, hM2.out.2, hE.out.2.1, hE.out.2.2.1, hpl2.out, hr.out, hE.out.2.2.2⟩⟩
    · obtain rfl : k = Z.length := by omega
      have hE := hidden (show ∃ ps', R = some ps' ∧ Kept w.heap.size wr u7 ps' from ⟨ps, by rw [← hR, List.drop_length]; rfl, hK⟩)
      replace hB := hidden hB
      clear hI hA hM hMl hK hpl hR hD
      go_wp2
      go_ret2
      obtain ⟨ps', rfl, h⟩ := hE.out
      exact ⟨⟨_, rfl, h⟩, hB.out⟩
theorem all_calls (L : List Rg) (Z : List Int) (w : World) (v u : Value) (hv : RgAt w v L) (hu : IntAt w u Z) (hl : L.length ≤ 100000) (hz : Z.length ≤ 100000) : Calls Try.prog 11 #[v, u] w fun e w' => (∃ v, e = .returned (.tuple #[v, .bool (allR (cleanL L) Z).isSome]) ∧ IntAt w' v ((allR (cleanL L) Z).getD [])) ∧ Below w.heap.size w w' :=
  (all_own L Z w v u hv hu hl hz).mono fun _ _ ⟨⟨v, he, hK⟩, hB⟩ => ⟨⟨v, he, hK.at⟩, hB⟩
end Go.Proofs.Ytfnfhabepadikaa
