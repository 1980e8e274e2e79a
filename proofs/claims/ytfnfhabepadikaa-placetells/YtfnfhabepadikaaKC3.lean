/- The document's own Find and Take. -/
import Derived.Test.YtfnfhabepadikaaKC2
namespace Go.Proofs.Ytfnfhabepadikaa
open Go Go.RowKit
set_option maxRecDepth 100000

theorem cleanL_no {L : List Rg} (h : okB L = false) : cleanL L = [] := by unfold cleanL; rw [if_neg (by rw [h]; simp)]
set_option maxHeartbeats 8000000 in
theorem rfind_calls (L : List Rg) (size : Int) (w : World) (v : Value) (hv : RgAt w v L) (hl : L.length ≤ 100000) : Calls Try.prog 12 #[v, .int .i64 size] w fun e w' => e = .returned (findV (cleanL L) size) ∧ Below w.heap.size w w' := by
  have kO := hidden (rok_calls L w v hv hl)
  cases hb : okB L
  · rw [hb] at kO
    have hR : findV (cleanL L) size = .tuple #[.int .i64 0, .bool false] := by
      rw [cleanL_no hb]; unfold findV findL; split <;> rfl
    rw [hR]
    clear hR hb hv
    go_enter Try.func12, Try.ntmps12
    go_wp2_with fail
    refine kO.out.mono ?_
    rintro e w1 ⟨rfl, hB⟩
    go_wp2
    go_ret2
    exact ⟨rfl, hB⟩
  rw [hb] at kO
  clear hb
  by_cases hs : size < 0
  · rw [find_neg _ size hs]
    clear hv
    go_enter Try.func12, Try.ntmps12
    go_wp2_with fail
    refine kO.out.mono ?_
    rintro e w1 ⟨rfl, hB⟩
    go_wp2
    go_ret2
    exact ⟨rfl, hB⟩
  have kC := hidden (fun (wx : World) (hx : Below w.heap.size w wx) => rclean_calls L wx v (hv.below hx) hl)
  have hH := hidden (And.intro (held_clean L) (cleanL_len L))
  generalize cleanL L = C at kC hH ⊢
  obtain ⟨R, hR⟩ : ∃ R, findV C size = R := ⟨_, rfl⟩
  have hhit := hidden (fun k a h1 h2 h3 => (hR ▸ find_hit C size k a hs h1 h2 h3 : R = _))
  have hend := hidden (fun h => (hR ▸ find_end C size hs h : R = _))
  have hgo := hidden (find_go C size)
  rw [hR]
  clear hR
  generalize hFF : (fun k : Nat => (C.drop k).find? (fun a => decide (max size 1 ≤ a.2 - upZ a.1)) = C.find? (fun a => decide (max size 1 ≤ a.2 - upZ a.1))) = F at *
  have hF0 : F 0 := by rw [← hFF]; rfl
  have hgo2 := hidden (fun k a (h1 : C[k]? = some a) (h2 : ¬ max size 1 ≤ a.2 - upZ a.1) (h3 : F k) => (show F (k + 1) by rw [← hFF] at h3 ⊢; exact (hgo.out k a h1 h2).trans h3))
  have hhit2 := hidden (fun k a (h1 : F k) (h2 : C[k]? = some a) (h3 : max size 1 ≤ a.2 - upZ a.1) => hhit.out k a (by rw [← hFF] at h1; exact h1) h2 h3)
  have hend2 := hidden (fun (h1 : F C.length) => hend.out (by rw [← hFF] at h1; exact h1))
  clear hFF hgo hhit hend hv
  go_enter Try.func12, Try.ntmps12
  go_wp2_with fail
  refine kO.out.mono ?_
  rintro e w1 ⟨rfl, hB1⟩
  have kC1 := hidden (kC.out w1 hB1)
  replace hB1 := hidden hB1
  clear kO kC
  go_wp2_with fail
  refine kC1.out.mono ?_
  rintro e w2 ⟨⟨v2, rfl, hA2⟩, hB2⟩
  have hB3 := hidden (hB1.out.trans (hB2.mono hB1.out.size))
  obtain ⟨a0, cap, rfl, hcap, hc⟩ := hA2
  replace hc := hidden hc
  clear kC1 hB1 hB2
  go_wp2_with fail
  go_loopg [7] C.length (fun g si wr => ∃ k : Nat, k ≤ C.length ∧ g = C.length - k ∧ si = .int .i64 (k : Int) ∧ wr = w2 ∧ Hid (F k))
  case atStart => exact ⟨0, Nat.zero_le _, rfl, rfl, rfl, hidden hF0⟩
  case round =>
    obtain ⟨k, hk, hg, rfl, rfl, hI⟩ := hrel
    rename World => w2
    replace hg := hidden hg
    clear hF0
    by_cases hlt : k < C.length
    · have hlt' : (k : Int) < (C.length : Int) := by omega
      have hk32 : k ≤ 32 := by have := hH.out.2; omega
      obtain ⟨b, off, rfl, hbl, hx⟩ := hc.out (by rintro rfl; simp at hlt)
      obtain ⟨⟨x, y⟩, hget⟩ : ∃ t, C[k]? = some t := ⟨_, List.getElem?_eq_getElem hlt⟩
      obtain ⟨f0, f1⟩ := hx k _ hget
      obtain ⟨t1, t2, t3, t4⟩ := hH.out.1.tame _ (List.mem_of_getElem? hget)
      have kU := hidden (fun wx => rup_calls x t1 (by dsimp only at t2; omega) wx)
      have hu := up_le x
      have hhit3 := hidden (fun h3 => hhit2.out k (x, y) hI.out hget h3)
      have hgo3 := hidden (fun h3 => hgo2.out k (x, y) hget h3 hI.out)
      dsimp only at f0 f1 t1 t2 t3 t4 hhit3 hgo3
      generalize upZ x = u at *
      have hm : 1 ≤ max size 1 := by omega
      obtain ⟨s, hse⟩ : ∃ s, max size 1 = s := ⟨_, rfl⟩
      rw [hse] at hhit3 hgo3 hm
      clear hx hI hhit2 hgo2 hend2 hc
      go_upto_region 8 with (refine (kU.out _).mono ?_; rintro e w3 ⟨rfl, rfl⟩)
      by_cases hsz : s ≤ y - u
      · have hE := hidden (hhit3.out hsz)
        have huy : u < y := by omega
        clear hhit3 hgo3
        go_wp2
        go_ret2
        exact ⟨by rw [hE.out]; rfl, hB3.out⟩
      · have hE := hidden (hgo3.out (by omega))
        clear hhit3 hgo3
        by_cases huy : u < y
        · go_wp2
          go_roundg (C.length - (k + 1))
          case measure => rw [hg.out]; omega
          case rel => exact ⟨k + 1, hlt, rfl, by go_num, rfl, hE⟩
        · go_wp2
          go_roundg (C.length - (k + 1))
          case measure => rw [hg.out]; omega
          case rel => exact ⟨k + 1, hlt, rfl, by go_num, rfl, hE⟩
    · obtain rfl : k = C.length := by omega
      have hE := hidden (hend2.out hI.out)
      clear hI hgo2 hhit2 hend2
      go_wp2
      go_ret2
      exact ⟨by rw [hE.out]; rfl, hB3.out⟩
set_option maxHeartbeats 8000000 in
theorem rtake_calls (L : List Rg) (r : Rg) (w : World) (v : Value) (hv : RgAt w v L) (hl : L.length ≤ 100000) : Calls Try.prog 19 #[v, rv r] w fun e w' => (∃ v, e = .returned v ∧ RgAt w' v (takeL (cleanL L) r)) ∧ Below w.heap.size w w' := by
  obtain ⟨p, q⟩ := r
  unfold rv
  dsimp only
  have hbx := hidden (box_at w p q)
  have hBx := hidden (box_new w (Obj.cells #[Value.int .i64 p, Value.int .i64 q] 25))
  have kC := hidden (rclean_calls L (w.alloc (Obj.cells #[Value.int .i64 p, Value.int .i64 q] 25)) v (hv.below hBx.out) hl)
  have hlC := cleanL_len L
  generalize cleanL L = C at kC hlC ⊢
  obtain ⟨T, hT⟩ : ∃ T, takeL C (p, q) = T := ⟨_, rfl⟩
  rw [hT]
  have hT1 := hidden (fun (h : q ≤ p) => (show T = C by rw [← hT, takeL, if_pos h]))
  have hT2 := hidden (fun (h : ¬ q ≤ p) => (show T = C.flatMap fun a => restP a (p, q) by rw [← hT, takeL, if_neg h]))
  clear hv hT
  go_enter Try.func19, Try.ntmps19
  go_wp2_with fail
  refine kC.out.mono ?_
  rintro e w2 ⟨⟨v2, rfl, hA2⟩, hB2⟩
  have hb2 := hidden (hbx.out.below hB2)
  have hB3 := hidden (hBx.out.trans (hB2.mono hBx.out.size))
  have c0 := hb2.out.c0
  have c1 := hb2.out.c1
  clear kC hbx hBx hB2
  by_cases hqp : q ≤ p
  · have hA3 := hidden (show RgAt w2 v2 T by rw [hT1.out hqp]; exact hA2)
    go_wp2
    go_ret
    exact ⟨⟨_, rfl, hA3.out⟩, hB3.out⟩
  obtain ⟨F, hFk⟩ : ∃ F : Nat → List Rg, ∀ k, F k = (C.take k).flatMap fun a => restP a (p, q) := ⟨_, fun _ => rfl⟩
  have hF0 := hidden (show F 0 = [] by rw [hFk]; rfl)
  have hFE := hidden (show F C.length = T by rw [hT2.out (by omega), hFk, List.take_length])
  have hFs := hidden (fun k a (hk : C[k]? = some a) => (show F (k + 1) = F k ++ restP a (p, q) by rw [hFk, hFk]; exact flat_take C (p, q) a k hk))
  have hFl := hidden (fun k => (show (F k).length ≤ 100 by rw [hFk]; have h1 := flat_len (C.take k) (p, q); have h2 : (C.take k).length ≤ C.length := List.length_take_le' k C; omega))
  clear hFk hT1 hT2
  obtain ⟨a0, cap, rfl, hcap, hc⟩ := hA2
  replace hc := hidden hc
  go_wp2_with fail
  rw [show decide (q ≤ p) = false from decide_eq_false (by omega)]
  clear c0 c1
  go_loopg [6, 7] C.length (fun g sl si wr => ∃ k : Nat, k ≤ C.length ∧ g = C.length - k ∧ si = .int .i64 (k : Int) ∧ Hid (RgOwn w2.heap.size wr sl (F k) ∧ Below w2.heap.size w2 wr))
  case atStart => exact ⟨0, Nat.zero_le _, rfl, rfl, hidden ⟨by rw [hF0.out]; exact RgOwn.nil _ _, Below.refl _ _⟩⟩
  case round =>
    obtain ⟨k, hk, hg, rfl, hI⟩ := hrel
    obtain ⟨hO, hB⟩ := hI.out
    rename World => wr
    replace hg := hidden hg
    by_cases hlt : k < C.length
    · have hlt' : (k : Int) < (C.length : Int) := by omega
      obtain ⟨b, off, rfl, hbl, hx⟩ := hc.out (by rintro rfl; simp at hlt)
      obtain ⟨⟨x, y⟩, hget⟩ : ∃ t, C[k]? = some t := ⟨_, List.getElem?_eq_getElem hlt⟩
      have hcl := hidden (fun (wy : World) (hy : Below w2.heap.size w2 wy) => (show wy.cell? ⟨b, off + k * 2, none⟩ = some (.int .i64 x) ∧ wy.cell? ⟨b, off + k * 2 + 1, none⟩ = some (.int .i64 y) from
        ⟨(hy.cell (p := ⟨b, off + k * 2, none⟩) hbl).trans (hx k _ hget).1, (hy.cell (p := ⟨b, off + k * 2 + 1, none⟩) hbl).trans (hx k _ hget).2⟩))
      have hbr := hidden (fun (wy : World) (hy : Below w2.heap.size w2 wy) => hb2.out.below hy)
      have hs := hidden (hFs.out k _ hget)
      have hFl0 := hFl.out k
      obtain ⟨f0, f1⟩ := hcl.out wr hB
      have c0 := (hbr.out wr hB).c0
      obtain ⟨mn, hmn⟩ : ∃ mn, min y p = mn := ⟨_, rfl⟩
      obtain ⟨mx, hmx⟩ : ∃ mx, max x q = mx := ⟨_, rfl⟩
      have hp11 := hidden (fun (h1 : x < mn) (h2 : mx < y) => (show F (k + 1) = (F k ++ [(x, mn)]) ++ [(mx, y)] by
        rw [hs.out, show restP (x, y) (p, q) = [(x, mn)] ++ [(mx, y)] by unfold restP; rw [hmn, hmx, if_pos h1, if_pos h2], List.append_assoc]))
      have hp10 := hidden (fun (h1 : x < mn) (h2 : ¬ mx < y) => (show F (k + 1) = F k ++ [(x, mn)] by
        rw [hs.out, show restP (x, y) (p, q) = [(x, mn)] by unfold restP; rw [hmn, hmx, if_pos h1, if_neg h2]; rfl]))
      have hp01 := hidden (fun (h1 : ¬ x < mn) (h2 : mx < y) => (show F (k + 1) = F k ++ [(mx, y)] by
        rw [hs.out, show restP (x, y) (p, q) = [(mx, y)] by unfold restP; rw [hmn, hmx, if_neg h1, if_pos h2]; rfl]))
      have hp00 := hidden (fun (h1 : ¬ x < mn) (h2 : ¬ mx < y) => (show F (k + 1) = F k by
        rw [hs.out, show restP (x, y) (p, q) = [] by unfold restP; rw [hmn, hmx, if_neg h1, if_neg h2]; rfl, List.append_nil]))
      have hl1 := hidden (show (F k ++ [(x, mn)]).length < 1000000 by rw [List.length_append, List.length_singleton]; omega)
      have hl0 := hidden (show (F k).length < 1000000 by omega)
      clear hx hget hI hs hFs hFl hFl0
      have hD := box_new wr (Obj.cells #[Value.int .i64 0, Value.int .i64 0] 25)
      obtain ⟨g0, g1⟩ := hcl.out _ (hB.trans (hD.mono hB.size))
      have d0 := (hbr.out _ (hB.trans (hD.mono hB.size))).c0
      go_upto_region 8 with fail
      go_region
      have hb3 := hidden ((box_at wr x mn).below ((Below.refl _ _).drew))
      have hBn := hidden ((box_new wr (Obj.cells #[Value.int .i64 x, Value.int .i64 mn] 25)).drew)
      generalize (wr.alloc (Obj.cells #[Value.int .i64 x, Value.int .i64 mn] 25)).drew = w3 at hb3 hBn ⊢
      have hO3 := hO.below hBn.out
      have hB4 := hB.trans (hBn.out.mono hB.size)
      have a0 := hb3.out.c0
      have a1 := hb3.out.c1
      clear f0 f1 g0 g1 c0 d0 hD hO hB hBn
      as_aux_lemma =>
        by_cases h1 : x < mn
        · obtain ⟨v4, w4, hrun, hO5, hB5, -⟩ := hO3.push0 hB4.size hl0.out x mn
          replace hB5 := hB4.trans hB5
          replace hrun := hidden hrun
          clear hO3 hB4
          go_upto_region 11 with (at_builtin; refine wpList_append_eq _ _ 22 rfl _ _ v4 w4 rfl rfl hrun.out rfl ?_)
          clear a0 a1 hb3 hrun
          have hD2 := box_new w4 (Obj.cells #[Value.int .i64 0, Value.int .i64 0] 25)
          obtain ⟨f0, f1⟩ := hcl.out w4 hB5
          obtain ⟨g0, g1⟩ := hcl.out _ (hB5.trans (hD2.mono hB5.size))
          have c0 := (hbr.out w4 hB5).c1
          have d0 := (hbr.out _ (hB5.trans (hD2.mono hB5.size))).c1
          replace hB5 := hidden hB5
          replace hO5 := hidden hO5
          go_upto_region 11 with fail
          go_region
          have hb6 := hidden ((box_at w4 mx y).below ((Below.refl _ _).drew))
          have hB6 := hidden ((box_new w4 (Obj.cells #[Value.int .i64 mx, Value.int .i64 y] 25)).drew)
          generalize (w4.alloc (Obj.cells #[Value.int .i64 mx, Value.int .i64 y] 25)).drew = w6 at hb6 hB6 ⊢
          have hO6 := hO5.out.below hB6.out
          have hB7 := hB5.out.trans (hB6.out.mono hB5.out.size)
          have a0 := hb6.out.c0
          have a1 := hb6.out.c1
          clear f0 f1 g0 g1 c0 d0 hD2 hO5 hB5 hB6 hmn hmx
          as_aux_lemma =>
            by_cases h2 : mx < y
            · obtain ⟨v7, w7, hrun2, hO7, hB8, -⟩ := hO6.push0 hB7.size hl1.out mx y
              have hE := hidden (show RgOwn w2.heap.size w7 v7 (F (k + 1)) ∧ Below w2.heap.size w2 w7 from ⟨by rw [hp11.out h1 h2]; exact hO7, hB7.trans hB8⟩)
              replace hrun2 := hidden hrun2
              clear hO6 hB7 hO7 hB8
              go_wp2_with (at_builtin; refine wpList_append_eq _ _ 22 rfl _ _ v7 w7 rfl rfl hrun2.out rfl ?_)
              go_roundg (C.length - (k + 1))
              case measure => rw [hg.out]; omega
              case rel => exact ⟨k + 1, hlt, rfl, by go_num, hE⟩
            · have hE := hidden (show RgOwn w2.heap.size w6 v4 (F (k + 1)) ∧ Below w2.heap.size w2 w6 from ⟨by rw [hp10.out h1 h2]; exact hO6, hB7⟩)
              clear hO6 hB7
              go_wp2
              go_roundg (C.length - (k + 1))
              case measure => rw [hg.out]; omega
              case rel => exact ⟨k + 1, hlt, rfl, by go_num, hE⟩
        · have hO5 := hO3
          have hB5 := hB4
          clear hO3 hB4
          go_upto_region 11 with fail
          clear a0 a1 hb3
          have hD2 := box_new w3 (Obj.cells #[Value.int .i64 0, Value.int .i64 0] 25)
          obtain ⟨f0, f1⟩ := hcl.out w3 hB5
          obtain ⟨g0, g1⟩ := hcl.out _ (hB5.trans (hD2.mono hB5.size))
          have c0 := (hbr.out w3 hB5).c1
          have d0 := (hbr.out _ (hB5.trans (hD2.mono hB5.size))).c1
          replace hB5 := hidden hB5
          replace hO5 := hidden hO5
          go_upto_region 11 with fail
          go_region
          have hb6 := hidden ((box_at w3 mx y).below ((Below.refl _ _).drew))
          have hB6 := hidden ((box_new w3 (Obj.cells #[Value.int .i64 mx, Value.int .i64 y] 25)).drew)
          generalize (w3.alloc (Obj.cells #[Value.int .i64 mx, Value.int .i64 y] 25)).drew = w6 at hb6 hB6 ⊢
          have hO6 := hO5.out.below hB6.out
          have hB7 := hB5.out.trans (hB6.out.mono hB5.out.size)
          have a0 := hb6.out.c0
          have a1 := hb6.out.c1
          clear f0 f1 g0 g1 c0 d0 hD2 hO5 hB5 hB6 hmn hmx
          as_aux_lemma =>
            by_cases h2 : mx < y
            · obtain ⟨v7, w7, hrun2, hO7, hB8, -⟩ := hO6.push0 hB7.size hl0.out mx y
              have hE := hidden (show RgOwn w2.heap.size w7 v7 (F (k + 1)) ∧ Below w2.heap.size w2 w7 from ⟨by rw [hp01.out h1 h2]; exact hO7, hB7.trans hB8⟩)
              replace hrun2 := hidden hrun2
              clear hO6 hB7 hO7 hB8
              go_wp2_with (at_builtin; refine wpList_append_eq _ _ 22 rfl _ _ v7 w7 rfl rfl hrun2.out rfl ?_)
              go_roundg (C.length - (k + 1))
              case measure => rw [hg.out]; omega
              case rel => exact ⟨k + 1, hlt, rfl, by go_num, hE⟩
            · have hE := hidden (show RgOwn w2.heap.size w6 u6 (F (k + 1)) ∧ Below w2.heap.size w2 w6 from ⟨by rw [hp00.out h1 h2]; exact hO6, hB7⟩)
              clear hO6 hB7
              go_wp2
              go_roundg (C.length - (k + 1))
              case measure => rw [hg.out]; omega
              case rel => exact ⟨k + 1, hlt, rfl, by go_num, hE⟩
    · obtain rfl : k = C.length := by omega
      have hE := hidden (show RgAt wr u6 T ∧ Below w.heap.size w wr from ⟨by have := hO.at; rwa [hFE.out] at this, hB3.out.trans (hB.mono hB3.out.size)⟩)
      clear hO hB hI
      go_wp2
      go_ret
      exact ⟨⟨_, rfl, hE.out.1⟩, hE.out.2⟩
end Go.Proofs.Ytfnfhabepadikaa
