/- version.Tokens. -/
import Derived.Test.YtpminhgkacgplabDoorV8
namespace Go.Proofs.YtpminhgkacgplabDoor
open Go Go.RowKit
set_option maxRecDepth 100000

theorem clone_calls (x : List UInt8) (w : World) (hs : x.length ≤ 1000000) : Calls Tryd.prog 14 #[.string (mkB x)] w fun e w' => e = .returned (.string (mkB x)) ∧ Below w.heap.size w w' := by
  have h := hidden (Tryd.stringslite_Clone (mkB x) w (by rw [mk_size]; omega))
  go_enter Tryd.func14, Tryd.ntmps14
  go_wp2_with fail
  refine h.out.mono ?_
  rintro e w' ⟨rfl, hb⟩
  replace hb := hidden hb
  go_wp2
  go_ret
  exact ⟨rfl, hb.out⟩
theorem next_tlen (x : List UInt8) : (nextB x).1.2.length ≤ x.length + 1 := by
  unfold nextB
  have h1 := drop_len (fun c => clsB c == 1) x
  split
  · exact Nat.zero_le _
  · rename_i c r h
    rw [h] at h1
    split
    · have h2 := take_len (fun c => clsB c == 3) ((c :: r).dropWhile (· == 48))
      have h3 := drop_len (· == 48) (c :: r)
      show (((c :: r).dropWhile (· == 48)).takeWhile (fun c => clsB c == 3)).length ≤ _
      omega
    · split
      · have h2 := take_len (fun c => clsB c == 2) (c :: r)
        show ((c :: r).takeWhile (fun c => clsB c == 2)).length ≤ _
        omega
      · show (1 : Nat) ≤ _
        omega
/-- What is still to come behind a token that was taken. -/
def comeT (t : Tok) (rest : List UInt8) : List Tok := if t.1 = 1 then [] else t :: toksB rest
theorem come_next (x : List UInt8) : comeT (nextB x).1 (nextB x).2 = toksB x := by
  rcases next_toks x with ⟨h1, _, h3⟩ | ⟨h1, h2, _⟩
  · rw [comeT, if_pos h1, h3]
  · rw [comeT, if_neg h1, h2]
theorem TksAt.form {w : World} {v : Value} {l : List Tok} (h : TksAt w v l) : ∃ a cap, v = .slice a l.length cap := by
  obtain ⟨a, cap, hv, -, -⟩ := h
  exact ⟨a, cap, hv⟩
set_option maxHeartbeats 8000000 in
theorem tokens_calls (x : List UInt8) (w : World) (hx : x.length ≤ 900) : Calls Tryd.prog 9 #[.string (mkB x)] w fun e w' => (∃ v, e = .returned v ∧ TkOwn w.heap.size w' v (toksB x)) ∧ Below w.heap.size w w' := by
  have kN := hidden (fun w => next_calls x w (by omega))
  have hc := come_next x
  have ht := next_tlen x
  have hl := next_len x
  have hml := hidden (toks_len x.length x (Nat.le_refl _))
  obtain ⟨⟨k0, s0⟩, hp⟩ : ∃ p, (nextB x).1 = p := ⟨_, rfl⟩
  obtain ⟨x0, hx0⟩ : ∃ r, (nextB x).2 = r := ⟨_, rfl⟩
  rw [hp, hx0] at hc kN
  rw [hp] at ht
  rw [hx0] at hl
  unfold tokV at kN
  dsimp only at kN ht
  replace hc := hidden hc
  replace ht := hidden ht
  replace hl := hidden hl
  replace hx := hidden hx
  clear hp hx0
  go_enter Tryd.func9, Tryd.ntmps9
  go_wp2_with fail
  refine (kN.out _).mono ?_
  rintro e w1 ⟨rfl, hb1⟩
  have hb0 := hidden (hb1.trans (((Below.refl w1.heap.size w1).alloc (Nat.le_refl _) (Obj.cells #[Value.int .i64 (k0 : Int), Value.string (mkB s0)] 31)).mono hb1.size))
  have hbx : TkBox (w1.alloc (Obj.cells #[Value.int .i64 (k0 : Int), Value.string (mkB s0)] 31)) w1.heap.size (k0, s0) := ⟨⟨by simp, by simp⟩, by simp⟩
  have hge := hidden hb1.size
  replace hbx := hidden hbx
  clear hb1 kN
  go_wp2_with fail
  go_loopg [3, 4, 5] (if k0 = 1 then 0 else x0.length + 1) (fun g sv sp sr wr => ∃ (v : Value) (k : Nat) (s r : List UInt8) (b : Nat) (L : List Tok), sv = v ∧ sp = .pointer (some ⟨b, 0, none⟩) ∧ sr = .string (mkB r) ∧ g = (if k = 1 then 0 else r.length + 1) ∧ Hid (TkOwn w.heap.size wr v L ∧ TkBox wr b (k, s) ∧ L ++ comeT (k, s) r = toksB x ∧ r.length ≤ 900 ∧ s.length ≤ 901 ∧ Below w.heap.size w wr ∧ w.heap.size ≤ b ∧ some b ≠ v.ownBlock))
  case atStart => exact ⟨_, k0, s0, x0, _, [], rfl, rfl, rfl, rfl, hidden ⟨TkOwn.nil _ _, hbx.out, hc.out, Nat.le_trans hl.out hx.out, by have := ht.out; have := hx.out; omega, hb0.out, hge.out, by simp [Value.ownBlock]⟩⟩
  case round =>
    clear hc ht hl hb0 hbx hge
    obtain ⟨v, k, s, r, b, L, hv0, rfl, rfl, hg, hI⟩ := hrel
    subst hv0
    obtain ⟨hO, hT, hC, hr, hs, hB, hb, hne⟩ := hI.out
    obtain ⟨av, cv, rfl⟩ := hO.form
    generalize hLL : L.length = LL at *
    replace hLL := hidden hLL
    replace hg := hidden hg
    have c0 := hT.tk.c0
    have c1 := hT.tk.c1
    by_cases hk : k = 1
    · subst hk
      rw [comeT, if_pos rfl, List.append_nil] at hC
      have hE := hidden (show TkOwn w.heap.size wr (.slice av LL cv) (toksB x) from hC ▸ hO)
      replace hB := hidden hB
      clear hO hT hC hI
      go_wp2
      go_ret
      exact ⟨⟨_, rfl, hE.out⟩, hB.out⟩
    · have hki : ¬ (k : Int) = 1 := by omega
      rw [comeT, if_neg hk] at hC
      have hLl : L.length ≤ 900 := by
        have h1 := congrArg List.length hC
        rw [List.length_append] at h1
        have := hml.out; have := hx.out; omega
      have kC := hidden (fun (wx : World) => clone_calls s wx (by omega))
      have hszr : b < wr.heap.size := hT.tk.lt
      have hPush := hidden (fun (w' : World) (hb' : Below wr.drew.heap.size wr.drew w') => (by
        have hbw : Below wr.heap.size wr w' := ((Below.refl wr.heap.size wr).drew).trans hb'
        have hal : Below w'.heap.size w' (w'.alloc (Obj.cells #[Value.int .i64 (k : Int), Value.string (mkB s)] 31)) := (Below.refl _ _).alloc (Nat.le_refl _) _
        have hbwa := hbw.trans (hal.mono hbw.size)
        obtain ⟨v2, w2, h1, h2, h3, h4⟩ := (hO.below hbwa).push (ST := 28) Tryd.underlying28 infoTk (k, s) ⟨w'.heap.size, 0, none⟩ 1 (by simp) (by simp [Addr.add]) (by omega) (by have := hB.size; have := hbwa.size; omega) 28
        have hT2 := (hT.below hbwa).heap (h4 b (by have := hbwa.size; omega) hne)
        obtain ⟨a2, c2, hv2⟩ := h2.form
        exact ⟨a2, c2, w2, by rw [← hv2]; exact h1, by rw [← hv2]; exact h2, hB.trans ((hbwa.mono hB.size).trans h3), hT2⟩ :
        ∃ a2 c2 w2, (Builtin.append_ #[28, 28] 28 #[.slice av LL cv, .slice (some ⟨w'.heap.size, 0, none⟩) 1 1]).run Tryd.prog (w'.alloc (Obj.cells #[Value.int .i64 (k : Int), Value.string (mkB s)] 31)) = .ok (.slice a2 (L ++ [((k, s) : Tok)]).length c2) w2 ∧ TkOwn w.heap.size w2 (.slice a2 (L ++ [((k, s) : Tok)]).length c2) (L ++ [(k, s)]) ∧ Below w.heap.size w w2 ∧ TkBox w2 b (k, s)))
      have kF := hidden (fun (wx : World) (hx : Below wr.heap.size wr wx) => (show wx.cell? ⟨b, 0, none⟩ = some (.int .i64 (k : Int)) ∧ wx.cell? ⟨b, 1, none⟩ = some (.string (mkB s)) from let q := hT.tk.below hx; ⟨q.c0, q.c1⟩))
      clear hO hT hI hB hne
      have kN := hidden (fun w => next_calls r w (by omega))
      have hcn := come_next r
      have htn := next_tlen r
      have hln := next_len r
      have hlt := next_toks r
      obtain ⟨⟨k1, s1⟩, hp1⟩ : ∃ p, (nextB r).1 = p := ⟨_, rfl⟩
      obtain ⟨r1, hr1⟩ : ∃ q, (nextB r).2 = q := ⟨_, rfl⟩
      rw [hp1, hr1] at hcn kN
      rw [hp1] at htn
      rw [hr1] at hln
      have hgg : (if k1 = 1 then 0 else r1.length + 1) < r.length + 1 := by
        split
        · omega
        · rename_i hk1
          rcases hlt with ⟨h1, _, _⟩ | ⟨_, _, h3⟩
          · rw [hp1] at h1; exact absurd h1 hk1
          · rw [hr1] at h3; omega
      unfold tokV at kN
      dsimp only at kN htn
      have hC2 : (L ++ [(k, s)]) ++ comeT (k1, s1) r1 = toksB x := by rw [hcn, List.append_assoc]; exact hC
      have hNum := hidden (show r1.length ≤ 900 ∧ s1.length ≤ 901 from ⟨by omega, by omega⟩)
      replace hgg := hidden (show (if k1 = 1 then 0 else r1.length + 1) < gk by rw [hg.out, if_neg hk]; exact hgg)
      replace hC2 := hidden hC2
      have hll1 : (L ++ [((k, s) : Tok)]).length = LL + 1 := by rw [List.length_append, hLL.out]; rfl
      rw [hll1] at hPush
      generalize L ++ [((k, s) : Tok)] = L1 at *
      replace hll1 := hidden hll1
      clear hcn htn hln hlt hp1 hr1 hC hr hs hg hLl hLL hk
      go_upto_region 5 with fail
      go_region_law (first
        | (refine any_append (s := .tmp 19) (x := .tmp 26) (t := 28) rfl rfl _ _ _ w2 rfl rfl hrun.out ?_)
        | (go_simp; go_at_call 14; refine (kC.out _).mono ?_; rintro e w' ⟨rfl, hb'⟩; obtain ⟨a2, c2, w2, hrun, hO2, hB2, hT2⟩ := hPush.out w' hb'; obtain ⟨q0, q1⟩ := kF.out w' (((Below.refl wr.heap.size wr).drew).trans hb'); replace hrun := hidden hrun; replace hO2 := hidden hO2; replace hB2 := hidden hB2; replace hT2 := hidden hT2; go_wp2))
      all_goals
        have d0 := hT2.out.tk.c0
        have d1 := hT2.out.tk.c1
        go_wp2_with fail
        refine (kN.out _).mono ?_
        rintro e w3 ⟨rfl, hb3⟩
        have hbx : TkBox (w2.alloc (Obj.cells #[Value.int .i64 (k : Int), Value.string (mkB s)] 31)) w2.heap.size (k, s) := ⟨⟨by simp, by simp⟩, by simp⟩
        have hal : Below w2.heap.size w2 (w2.alloc (Obj.cells #[Value.int .i64 (k : Int), Value.string (mkB s)] 31)) := (Below.refl _ _).alloc (Nat.le_refl _) _
        have hby := hbx.below hb3
        have f0 := hby.fz 0
        have f1 := hby.fz 1
        have g0 := hby.tk.c0
        have g1 := hby.tk.c1
        have hb23 : Below w2.heap.size w2 w3 := hal.trans (hb3.mono hal.size)
        have hO3 := hO2.out.below hb23
        have hstep : Below w2.heap.size w2 ((w3.setCell ⟨w2.heap.size, 0, none⟩ (.int .i64 (k1 : Int))).setCell ⟨w2.heap.size, 1, none⟩ (.string (mkB s1))) := (hb23.setCell (p := ⟨w2.heap.size, 0, none⟩) (Nat.le_refl _) _).setCell (p := ⟨w2.heap.size, 1, none⟩) (Nat.le_refl _) _
        have hEnd := hidden (show TkOwn w.heap.size ((w3.setCell ⟨w2.heap.size, 0, none⟩ (.int .i64 (k1 : Int))).setCell ⟨w2.heap.size, 1, none⟩ (.string (mkB s1))) (.slice a2 (LL + 1) c2) L1 ∧ TkBox ((w3.setCell ⟨w2.heap.size, 0, none⟩ (.int .i64 (k1 : Int))).setCell ⟨w2.heap.size, 1, none⟩ (.string (mkB s1))) w2.heap.size (k1, s1) ∧ Below w.heap.size w ((w3.setCell ⟨w2.heap.size, 0, none⟩ (.int .i64 (k1 : Int))).setCell ⟨w2.heap.size, 1, none⟩ (.string (mkB s1))) ∧ w.heap.size ≤ w2.heap.size ∧ some w2.heap.size ≠ (Value.slice a2 (LL + 1) c2).ownBlock from
          ⟨hO2.out.below hstep, hby.stored k1 s1, hB2.out.trans (hstep.mono hB2.out.size), hB2.out.size, fun e => Nat.lt_irrefl _ (hO2.out.own_lt e.symm)⟩)
        clear hby hb23 hO3 hstep hbx hal hb3 hO2 hB2 hT2 hrun d0 d1 hPush q0 q1 hb' c0 c1
        go_wp2
        go_roundg (if k1 = 1 then 0 else r1.length + 1)
        case measure => exact hgg.out
        case rel => exact ⟨_, k1, s1, r1, _, L1, rfl, rfl, rfl, rfl, hidden ⟨hEnd.out.1, hEnd.out.2.1, hC2.out, hNum.out.1, hNum.out.2, hEnd.out.2.2.1, hEnd.out.2.2.2.1, hEnd.out.2.2.2.2⟩⟩
end Go.Proofs.YtpminhgkacgplabDoor
