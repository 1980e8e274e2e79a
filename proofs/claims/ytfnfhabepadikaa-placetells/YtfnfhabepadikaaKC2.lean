/- The document's own Clean. -/
import Derived.Test.YtfnfhabepadikaaKC1
import Derived.Test.YtfnfhabepadikaaKL
import Derived.Deep.RegionHeld
namespace Go.Proofs.Ytfnfhabepadikaa
open Go Go.RowKit
set_option maxRecDepth 100000

theorem any_append_ex {P : Program} {ops : Array Oper} {o : Oper} {a : Act} {w : World} {K : Act → World → Prop} {Q : Exit → Act → World → Prop} {s x : Operand} {t : TypeId} {R : Value → World → Prop} (hg : Region.wanted o (yielded ops a.tmps) = true)
    (ho : o.op = .call { callee := .builtin .append, args := #[s, x], argTypes := #[t, t] }) (v xv : Value) (hs : a.eval s = v) (hx : a.eval x = xv)
    (hr : ∃ v' w', (Builtin.append_ #[t, t] o.type #[v, xv]).run P w = .ok v' w' ∧ R v' w') (h : ∀ v' w', R v' w' → K (a.put o.dst v') w') : if Region.wanted o (yielded ops a.tmps) = true then Oper.wp P o a w K Q else K (a.put o.dst undef) w := by
  obtain ⟨v', w', h1, h2⟩ := hr
  exact any_append hg ho v xv v' w' hs hx h1 (h v' w' h2)
theorem tw_at {z : Rg} : ∀ (r : List Rg) (j : Nat), j ≤ r.length → (∀ t b, t < j → r[t]? = some b → b.1 < z.1) → (∀ b, r[j]? = some b → ¬ b.1 < z.1) → r.takeWhile (ahd z) = r.take j ∧ r.dropWhile (ahd z) = r.drop j
  | [], j, hj, _, _ => by simp
  | a :: r, 0, _, _, h2 => by
    have e : ¬ ahd z a = true := by have := h2 a rfl; unfold ahd; simpa using this
    rw [List.takeWhile_cons_of_neg e, List.dropWhile_cons_of_neg e]; exact ⟨rfl, rfl⟩
  | a :: r, j + 1, hj, h1, h2 => by
    have e : ahd z a = true := decide_eq_true (h1 0 a (by omega) rfl)
    obtain ⟨i1, i2⟩ := tw_at r j (by simpa using hj) (fun t b ht hb => h1 (t + 1) b (by omega) (by simpa using hb)) (fun b hb => h2 b (by simpa using hb))
    rw [List.takeWhile_cons_of_pos e, List.dropWhile_cons_of_pos e, i1, i2]; exact ⟨rfl, rfl⟩
theorem placeL_at {r : List Rg} {z : Rg} {j : Nat} (hj : j ≤ r.length) (h1 : ∀ t b, t < j → r[t]? = some b → b.1 < z.1) (h2 : ∀ b, r[j]? = some b → ¬ b.1 < z.1) : placeL r z = (r.take j ++ [z]) ++ r.drop j := by
  obtain ⟨e1, e2⟩ := tw_at r j hj h1 h2
  unfold placeL; rw [e1, e2]
theorem Box.set01 {w : World} {b : Nat} {x y : Int} (h : Box w b x y) (p q : Int) : Box ((w.setCell ⟨b, 0, none⟩ (.int .i64 p)).setCell ⟨b, 1, none⟩ (.int .i64 q)) b p q := by
  refine ⟨?_, ?_, fun j => by have := h.fz j; simpa using this⟩
  · rw [World.cell?_setCell_other _ ⟨b, 1, none⟩ ⟨b, 0, none⟩ (.int .i64 q) (fun he => by injection he with _ h2 _; exact absurd h2 (by decide))]
    exact World.cell?_setCell_same _ _ _ h.c0
  · have h1 : (w.setCell ⟨b, 0, none⟩ (.int .i64 p)).cell? ⟨b, 1, none⟩ = some (.int .i64 y) := by
      rw [World.cell?_setCell_other _ ⟨b, 0, none⟩ ⟨b, 1, none⟩ (.int .i64 p) (fun he => by injection he with _ h2 _; exact absurd h2 (by decide))]
      exact h.c1
    exact World.cell?_setCell_same _ _ _ h1
theorem RgOwn.part {base : Nat} {w : World} {v : Value} {L : List Rg} (h : RgOwn base w v L) : (v = .slice none 0 0 ∧ L = []) ∨ ∃ g cap, v = .slice (some ⟨g, 0, none⟩) L.length cap ∧ base ≤ g ∧ g < w.heap.size ∧ L.length ≤ cap ∧ ∀ k x, L[k]? = some x → w.cell? ⟨g, k * 2, none⟩ = some (.int .i64 x.1) ∧ w.cell? ⟨g, k * 2 + 1, none⟩ = some (.int .i64 x.2) := by
  rcases h.row.2 with ⟨rfl, h0⟩ | ⟨g', cap', cur, rfl, h1, hh, h2, h3, h4, h5⟩
  · exact Or.inl ⟨rfl, List.length_eq_zero_iff.1 h0⟩
  · refine Or.inr ⟨g', cap', rfl, h1, ?_, h2, fun k x hk => ?_⟩
    · rcases Nat.lt_or_ge g' w.heap.size with h | h
      · exact h
      · rw [Array.getElem?_eq_none h] at hh; cases hh
    · obtain ⟨g, cap, hv, -, -, -, -, hc⟩ := h.lt (by rintro rfl; simp at hk)
      obtain ⟨he, -, -⟩ := Value.slice.inj hv
      injection he with he
      injection he with he
      subst he
      exact hc k x hk
theorem rg_more {base : Nat} {w : World} {v xv : Value} {L R : List Rg} (h : RgOwn base w v L) (hx : (xv = .slice none 0 0 ∧ R = []) ∨ ∃ g off cap, xv = .slice (some ⟨g, off, none⟩) R.length cap ∧ ∀ k x, R[k]? = some x → w.cell? ⟨g, off + k * 2, none⟩ = some (.int .i64 x.1) ∧ w.cell? ⟨g, off + k * 2 + 1, none⟩ = some (.int .i64 x.2)) (hn : L.length + R.length ≤ 1000000) (hbase : base ≤ w.heap.size) (ty : TypeId) :
    ∃ v' w', (Builtin.append_ #[22, 22] ty #[v, xv]).run Try.prog w = .ok v' w' ∧ RgOwn base w' v' (L ++ R) ∧ Below base w w' ∧ ∀ b, b < w.heap.size → some b ≠ v.ownBlock → w'.heap[b]? = w.heap[b]? := by
  rcases hx with ⟨rfl, rfl⟩ | ⟨g, off, cap, rfl, hc⟩
  · exact ⟨v, w, h.append_none ty, by rw [List.append_nil]; exact h, Below.refl _ _, fun _ _ _ => rfl⟩
  · exact h.appends ⟨g, off, none⟩ _ cap R rfl (fun k r hk => by
      rw [Addr.add_lit, Addr.add_lit]
      exact hc k r hk) hn hbase ty
theorem Apart.low {bs : List Nat} {a b c : World} (h : Apart bs a b) (k : Below a.heap.size b c) : Apart bs a c :=
  ⟨k.os.trans h.os, k.tape.trans h.tape, k.output.trans h.output, Nat.le_trans h.size k.size, fun i hi hn => (k.block i hi).trans (h.block i hi hn)⟩
set_option maxHeartbeats 8000000 in
theorem rclean_calls (L : List Rg) (w : World) (v : Value) (hv : RgAt w v L) (hl : L.length ≤ 100000) : Calls Try.prog 17 #[v] w fun e w' => (∃ v, e = .returned v ∧ RgAt w' v (cleanL L)) ∧ Below w.heap.size w w' := by
  have kO := hidden (rok_calls L w v hv hl)
  rw [← rcleanL_eq]
  unfold rcleanL
  have hok := okB_iff L
  cases hb : okB L
  · rw [hb] at kO
    rw [if_neg (by simp)]
    clear hok hv
    go_enter Try.func17, Try.ntmps17
    go_wp2_with fail
    refine kO.out.mono ?_
    rintro e w1 ⟨rfl, hB⟩
    go_wp2
    go_ret
    exact ⟨⟨_, rfl, RgAt.nil _ _ _⟩, hB⟩
  rw [hb] at kO
  rw [if_pos rfl]
  have hl32 : L.length ≤ 32 := (hok.1 hb).1
  clear hok hb
  obtain ⟨F, hF⟩ : ∃ F : Nat → List Rg, ∀ k, F k = (L.take k).foldl insL [] := ⟨_, fun _ => rfl⟩
  have hF0 := hidden (show F 0 = [] by rw [hF]; rfl)
  have hFE := hidden (show F L.length = rcl L by rw [hF, List.take_length]; rfl)
  have hFs := hidden (fun k a (hk : L[k]? = some a) => (show F (k + 1) = insL (F k) a by rw [hF, hF, List.take_add_one, hk]; exact rcl_snoc _ a []))
  have hFl := hidden (fun k => (show (F k).length ≤ 32 by rw [hF]; have h1 := rcl_len (L.take k) []; have h2 : (L.take k).length ≤ L.length := List.length_take_le' k L; simp at h1 h2; omega))
  generalize rcl L = R at *
  clear hF
  obtain ⟨a0, cap, rfl, hcap, hc⟩ := hv
  replace hc := hidden hc
  go_enter Try.func17, Try.ntmps17
  go_wp2_with fail
  refine kO.out.mono ?_
  rintro e w1 ⟨rfl, hB1⟩
  replace hB1 := hidden hB1
  clear kO
  go_wp2_with fail
  go_loopg [3, 4] L.length (fun g so si wr => ∃ k : Nat, k ≤ L.length ∧ g = L.length - k ∧ si = .int .i64 (k : Int) ∧ Hid (RgOwn w.heap.size wr so (F k) ∧ Below w.heap.size w wr))
  case atStart => exact ⟨0, Nat.zero_le _, rfl, rfl, hidden ⟨by rw [hF0.out]; exact RgOwn.nil _ _, hB1.out⟩⟩
  case round =>
    obtain ⟨i, hi, hg, rfl, hI⟩ := hrel
    obtain ⟨hO, hB⟩ := hI.out
    replace hg := hidden hg
    rename World => wr
    by_cases hlt : i < L.length
    · have hlt' : (i : Int) < (L.length : Int) := by omega
      obtain ⟨b, off, rfl, hbl, hx⟩ := hc.out (by rintro rfl; simp at hlt)
      obtain ⟨⟨x, y⟩, hget⟩ : ∃ t, L[i]? = some t := ⟨_, List.getElem?_eq_getElem hlt⟩
      obtain ⟨d0, d1⟩ := hx i _ hget
      have f0 := (hB.cell (p := ⟨b, off + i * 2, none⟩) hbl).trans d0
      have f1 := (hB.cell (p := ⟨b, off + i * 2 + 1, none⟩) hbl).trans d1
      dsimp only at f0 f1
      have hs := hFs.out i _ hget
      clear d0 d1 hx hI hget
      go_upto_region 8 with fail
      have hbx := box_at wr x y
      have hBn := hidden (box_new wr (Obj.cells #[Value.int .i64 x, Value.int .i64 y] 25))
      have hw3 : (wr.alloc (Obj.cells #[Value.int .i64 x, Value.int .i64 y] 25)).heap.size = wr.heap.size + 1 := by simp
      generalize wr.alloc (Obj.cells #[Value.int .i64 x, Value.int .i64 y] 25) = w3 at hbx hBn hw3 ⊢
      obtain ⟨bx, hbxe⟩ : ∃ bx, wr.heap.size = bx := ⟨_, rfl⟩
      rw [hbxe] at hbx hw3
      have hbw : w.heap.size ≤ bx := by rw [← hbxe]; exact hB.size
      have hO3 := hidden (hO.below hBn.out)
      have hB3 := hidden (hB.trans (hBn.out.mono hB.size))
      have c0 := hbx.c0
      have c1 := hbx.c1
      have hMl := hFl.out i
      have hgb := hidden (fun gg (h : u3.ownBlock = some gg) => (show gg < bx by rw [← hbxe]; exact hO.own_lt h))
      obtain ⟨bm, hm1, hm2⟩ := hO.cells
      have hm3 := hidden (show F i ≠ [] → ∃ cap, u3 = .slice (some ⟨bm, 0, none⟩) (F i).length cap ∧ bm < bx from fun h => by
        obtain ⟨cp, h1, -, h3⟩ := hm1 h; exact ⟨cp, h1, by rw [← hbxe]; exact h3⟩)
      have hm4 := hidden (fun (wy : World) (hA : Apart [bx] w3 wy) k t (hk : (F i)[k]? = some t) => (show wy.cell? ⟨bm, k * 2, none⟩ = some (.int .i64 t.1) ∧ wy.cell? ⟨bm, k * 2 + 1, none⟩ = some (.int .i64 t.2) by
        have hne : F i ≠ [] := by rintro h; rw [h] at hk; simp at hk
        obtain ⟨cp, h1, h2⟩ := hm3.out hne
        have h4 : bm < wr.heap.size := by omega
        obtain ⟨k0, k1⟩ := hm2 k t hk
        exact ⟨(hA.cell (p := ⟨bm, k * 2, none⟩) (by dsimp only; omega) (by simp; omega)).trans ((hBn.out.cell (p := ⟨bm, k * 2, none⟩) h4).trans k0), (hA.cell (p := ⟨bm, k * 2 + 1, none⟩) (by dsimp only; omega) (by simp; omega)).trans ((hBn.out.cell (p := ⟨bm, k * 2 + 1, none⟩) h4).trans k1)⟩))
      obtain ⟨am, cm, hum⟩ := hO.form
      clear hm1 hm2 hO hB f0 f1
      rw [hbxe]
      by_cases hxy : x = y
      · subst hxy
        have hE := hidden (show RgOwn w.heap.size w3 u3 (F (i + 1)) by rw [hs]; unfold insL; rw [if_pos rfl]; exact hO3.out)
        clear hs
        go_wp2
        go_roundg (L.length - (i + 1))
        case measure => rw [hg.out]; omega
        case rel => exact ⟨i + 1, hlt, rfl, by go_num, hidden ⟨hE.out, hB3.out⟩⟩
      · have hs2 := hidden (show F (i + 1) = placeL ((F i).foldl insF ([], (x, y))).1 ((F i).foldl insF ([], (x, y))).2 by rw [hs]; unfold insL; rw [if_neg hxy])
        have hgx : bx < w3.heap.size := by omega
        have hbx0 := hidden hbx
        obtain ⟨S, hS⟩ : ∃ S : Nat → List Rg × Rg, ∀ k, S k = ((F i).take k).foldl insF ([], (x, y)) := ⟨_, fun _ => rfl⟩
        have hS0 := hidden (show S 0 = ([], (x, y)) by rw [hS]; rfl)
        have hSE := hidden (show F (i + 1) = placeL (S (F i).length).1 (S (F i).length).2 by rw [hs2.out, hS, List.take_length])
        have hSs := hidden (fun k a (hk : (F i)[k]? = some a) => (show S (k + 1) = insF (S k) a by rw [hS, hS, List.take_add_one, hk]; exact insF_snoc _ a _))
        have hSl := hidden (fun k => (show (S k).1.length ≤ 32 by rw [hS]; have h1 := insF_len ((F i).take k) ([], (x, y)); have h2 : ((F i).take k).length ≤ (F i).length := List.length_take_le' k (F i); simp at h1 h2; omega))
        clear hs hs2 hS hbx
        generalize F i = M at *
        subst hum
        go_wp2_with fail
        rw [show (x == y) = false from beq_eq_false_iff_ne.2 hxy]
        clear c0 c1
        go_loopg [6, 7] M.length (fun g sr sk wy => ∃ k : Nat, k ≤ M.length ∧ g = M.length - k ∧ sk = .int .i64 (k : Int) ∧ Hid (Box wy bx (S k).2.1 (S k).2.2 ∧ RgOwn w3.heap.size wy sr (S k).1 ∧ Apart [bx] w3 wy))
        case atStart => exact ⟨0, Nat.zero_le _, rfl, rfl, hidden ⟨by rw [hS0.out]; exact hbx0.out, by rw [hS0.out]; exact RgOwn.nil _ _, Apart.refl _ _⟩⟩
        case round =>
          obtain ⟨k, hk, hg2, rfl, hI⟩ := hrel
          replace hg2 := hidden hg2
          rename World => w4
          obtain ⟨hX, hR, hA⟩ := hI.out
          by_cases hkm : k < M.length
          · have hkm' : (k : Int) < (M.length : Int) := by omega
            obtain ⟨⟨p, q⟩, hget⟩ : ∃ t, M[k]? = some t := ⟨_, List.getElem?_eq_getElem hkm⟩
            obtain ⟨f0, f1⟩ := hm4.out w4 hA k _ hget
            obtain ⟨cp, hu1, hu2⟩ := hm3.out (by rintro rfl; simp at hkm)
            obtain ⟨rfl, -, rfl⟩ := Value.slice.inj hu1
            have hst := hSs.out k _ hget
            have hl := hSl.out k
            dsimp only at f0 f1
            obtain ⟨⟨r, x1, y1⟩, hSk⟩ : ∃ s, S k = s := ⟨_, rfl⟩
            rw [hSk] at hX hR hst hl
            dsimp only at hX hR hl
            clear hI
            go_upto_region 14 with fail
            have hy := box_at w4 p q
            have hBy := hidden (box_new w4 (Obj.cells #[Value.int .i64 p, Value.int .i64 q] 25))
            have hX2 := hX.below hBy.out
            have hR2 := hR.below hBy.out
            have hA2 := hA.trans (Apart.of_below hBy.out)
            generalize w4.alloc (Obj.cells #[Value.int .i64 p, Value.int .i64 q] 25) = w5 at hy hBy hX2 hR2 hA2 ⊢
            obtain ⟨bz, hbze⟩ : ∃ bz, w4.heap.size = bz := ⟨_, rfl⟩
            rw [hbze] at hy ⊢
            have c0 := hX2.c0
            have c1 := hX2.c1
            have e0 := hy.c0
            have e1 := hy.c1
            clear f0 f1
            by_cases hsep : q < x1 ∨ y1 < p
            · obtain ⟨v6, w6, hrun, hR6, hB6, hk6⟩ := hR2.push0 hA2.size (by omega) p q
              have hE := hidden (show Box w6 bx (S (k + 1)).2.1 (S (k + 1)).2.2 ∧ RgOwn w3.heap.size w6 v6 (S (k + 1)).1 ∧ Apart [bx] w3 w6 by
                have e : S (k + 1) = (r ++ [(p, q)], (x1, y1)) := by rw [hst]; unfold insF; rw [if_pos hsep]
                rw [e]
                exact ⟨hX2.heap (hk6 bx hX2.lt (fun e => by have := (hR2.row.lt bx e.symm).1; omega)), hR6, hA2.low hB6⟩)
              replace hrun := hidden hrun
              clear hst hX hR hA hX2 hR2 hA2 hy hBy hR6 hB6 hk6
              by_cases h1 : q < x1
              · go_wp2_with (at_builtin; refine wpList_append_eq _ _ 22 rfl _ _ v6 w6 rfl rfl hrun.out rfl ?_)
                go_roundg (M.length - (k + 1))
                case measure => rw [hg2.out]; omega
                case rel => exact ⟨k + 1, hkm, rfl, by go_num, hE⟩
              · have h2 : y1 < p := by omega
                go_wp2_with (at_builtin; refine wpList_append_eq _ _ 22 rfl _ _ v6 w6 rfl rfl hrun.out rfl ?_)
                go_roundg (M.length - (k + 1))
                case measure => rw [hg2.out]; omega
                case rel => exact ⟨k + 1, hkm, rfl, by go_num, hE⟩
            · have h1 : ¬ q < x1 := by omega
              have h2 : ¬ y1 < p := by omega
              have z0 := hX2.fz 0
              have z1 := hX2.fz 1
              obtain ⟨mn, hmn⟩ : ∃ mn, min x1 p = mn := ⟨_, rfl⟩
              obtain ⟨mx, hmx⟩ : ∃ mx, max y1 q = mx := ⟨_, rfl⟩
              have hAx := ((Apart.refl [bx] w5).setCell (p := ⟨bx, 0, none⟩) (by simp) (.int .i64 mn)).setCell (p := ⟨bx, 1, none⟩) (by simp) (.int .i64 mx)
              have hE := hidden (show Box ((w5.setCell ⟨bx, 0, none⟩ (.int .i64 mn)).setCell ⟨bx, 1, none⟩ (.int .i64 mx)) bx (S (k + 1)).2.1 (S (k + 1)).2.2 ∧ RgOwn w3.heap.size ((w5.setCell ⟨bx, 0, none⟩ (.int .i64 mn)).setCell ⟨bx, 1, none⟩ (.int .i64 mx)) u6 (S (k + 1)).1 ∧ Apart [bx] w3 ((w5.setCell ⟨bx, 0, none⟩ (.int .i64 mn)).setCell ⟨bx, 1, none⟩ (.int .i64 mx)) by
                have e : S (k + 1) = (r, (mn, mx)) := by rw [hst]; unfold insF; rw [if_neg hsep, ← hmn, ← hmx]
                rw [e]
                exact ⟨hX2.set01 mn mx, hR2.keep hAx (by simpa using hgx), hA2.trans hAx⟩)
              clear hst hX hR hA hX2 hR2 hA2 hy hBy hAx
              go_wp2
              go_roundg (M.length - (k + 1))
              case measure => rw [hg2.out]; omega
              case rel => exact ⟨k + 1, hkm, rfl, by go_num, hE⟩
          · obtain rfl : k = M.length := by omega
            obtain ⟨⟨r, x1, y1⟩, hSk⟩ : ∃ s, S M.length = s := ⟨_, rfl⟩
            have hl := hSl.out M.length
            have hPl := hSE.out
            rw [hSk] at hX hR hl hPl
            dsimp only at hX hR hl hPl
            replace hPl := hidden hPl
            have hr4 : w3.heap.size ≤ w4.heap.size := hA.size
            have hB4 := hidden (hB3.out.trans (hA.below (B := w.heap.size) (by simpa using hbw) hB3.out.size))
            have hX4 := hidden (fun (wy : World) (hy : Below w4.heap.size w4 wy) => hX.below hy)
            have hR4 := hidden (fun (wy : World) (hy : Below w4.heap.size w4 wy) => hR.below hy)
            have hpart := hidden hR.part
            clear hI hX hR hA hSE hSs hSl hS0 hSk hm3 hm4 hg2
            go_wp2_with fail
            go_loopg [9] r.length (fun g sj wz => ∃ j : Nat, j ≤ r.length ∧ g = r.length - j ∧ sj = .int .i64 (j : Int) ∧ Hid ((∀ t b, t < j → r[t]? = some b → b.1 < x1) ∧ Below w4.heap.size w4 wz))
            case atStart => exact ⟨0, Nat.zero_le _, rfl, rfl, hidden ⟨fun t b h => by omega, Below.refl _ _⟩⟩
            case round =>
              obtain ⟨j, hj, hg3, rfl, hI⟩ := hrel
              replace hg3 := hidden hg3
              rename World => wz
              obtain ⟨hlo, hBz⟩ := hI.out
              have hX5 := hX4.out wz hBz
              have c0 := hX5.c0
              have hBz2 := hidden (fun n => hBz.trans ((bdN wz n).mono hBz.size))
              obtain ⟨ar, cr, hur⟩ := (hR4.out wz hBz).form
              obtain ⟨gr, hr1, hr2⟩ := (hR4.out wz hBz).cells
              subst hur
              clear hX5 hI
              go_upto_region 18 with fail
              go_cut [78] from 65 to 78 (fun v wx => ∃ q : Bool, v = .bool q ∧ Hid ((q = true → j < r.length ∧ ∀ b, r[j]? = some b → b.1 < x1) ∧ (q = false → ∀ b, r[j]? = some b → ¬ b.1 < x1) ∧ Below w4.heap.size w4 wx))
              case first =>
                by_cases hjr : j < r.length
                · have hjr' : (j : Int) < (r.length : Int) := by omega
                  obtain ⟨⟨p, q⟩, hget⟩ : ∃ t, r[j]? = some t := ⟨_, List.getElem?_eq_getElem hjr⟩
                  obtain ⟨cp, hu1, -, hu2⟩ := hr1 (by rintro rfl; simp at hjr)
                  obtain ⟨rfl, -, rfl⟩ := Value.slice.inj hu1
                  have f0 := (hr2 j _ hget).1
                  dsimp only at f0
                  replace hr2 := hidden hr2
                  by_cases hpx : p < x1
                  · go_quiet (fail)
                    go_wp2
                    go_meet
                    case rel => exact ⟨true, rfl, hidden ⟨fun _ => ⟨hjr, fun b hb => by rw [hget] at hb; cases hb; exact hpx⟩, fun h => by (cases h), hBz2.out _⟩⟩
                  · go_quiet (fail)
                    go_wp2
                    go_meet
                    case rel => exact ⟨false, rfl, hidden ⟨fun h => by (cases h), fun _ b hb => by rw [hget] at hb; cases hb; exact hpx, hBz2.out _⟩⟩
                · have hjr' : ¬ (j : Int) < (r.length : Int) := by omega
                  go_quiet (fail)
                  go_wp2
                  go_meet
                  case rel => exact ⟨false, rfl, hidden ⟨fun h => by (cases h), fun _ b hb => absurd (List.getElem?_eq_some_iff.1 hb).1 hjr, hBz2.out _⟩⟩
              case rest =>
                rename World => w6
                obtain ⟨q, rfl, hq⟩ := hcut
                clear c0 hBz hBz2 hr1 hr2
                cases q
                rotate_left
                · obtain ⟨hjr, hjx⟩ := hq.out.1 rfl
                  have hE := hidden (show (∀ t b, t < j + 1 → r[t]? = some b → b.1 < x1) ∧ Below w4.heap.size w4 w6 from ⟨fun t b ht hb => by
                    rcases Nat.lt_or_eq_of_le (Nat.le_of_lt_succ ht) with h1 | rfl
                    · exact hlo t b h1 hb
                    · exact hjx b hb, hq.out.2.2⟩)
                  clear hq hlo hjx
                  go_wp2
                  go_roundg (r.length - (j + 1))
                  case measure => rw [hg3.out]; omega
                  case rel => exact ⟨j + 1, hjr, rfl, by go_num, hE⟩
                · have hB6 := hidden hq.out.2.2
                  have hpl := placeL_at (r := r) (z := (x1, y1)) hj hlo (hq.out.2.1 rfl)
                  rw [hpl] at hPl
                  clear hq hlo hpl
                  have hX6 := hidden (hX4.out w6 hB6.out)
                  have hB7 := hidden (hB4.out.trans (hB6.out.mono hB4.out.size))
                  have cx1 := hidden (fun (wy : World) (hy : Below w6.heap.size w6 wy) => hX6.out.below hy)
                  have hEnd := hidden (fun (wy : World) (v' : Value) (hy : Below w6.heap.size w6 wy) (ho : RgOwn w6.heap.size wy v' ((r.take j ++ [(x1, y1)]) ++ r.drop j)) => (show RgOwn w.heap.size wy v' (F (i + 1)) ∧ Below w.heap.size w wy by
                    rw [hPl.out]; exact ⟨ho.mono hB7.out.size, hB7.out.trans (hy.mono hB7.out.size)⟩))
                  have hL1 : (r.take j).length = j := by rw [List.length_take]; omega
                  have hL2 : (r.drop j).length = r.length - j := by rw [List.length_drop]
                  go_upto_region 20 with fail
                  rcases hpart.out with ⟨h1, h2⟩ | ⟨gb, cap', h1, hbase, hgb, hcp, hcl⟩
                  · have hj0 : j = 0 := by rw [h2] at hj; simpa using hj
                    obtain ⟨rfl, hr0, rfl⟩ := Value.slice.inj h1
                    subst h2
                    subst hj0
                    have hP1 := hidden (fun (wy : World) (eb : Nat) (hy : Below w6.heap.size w6 wy) (ho : RgOwn w6.heap.size wy (.slice (some ⟨eb, 0, none⟩) 0 0) []) => (show ∃ v' w', (Builtin.append_ #[22, 22] 22 #[.slice (some ⟨eb, 0, none⟩) 0 0, .slice none 0 0]).run Try.prog wy = .ok v' w' ∧ (RgOwn w6.heap.size w' v' (([] : List Rg).take 0) ∧ Below w6.heap.size w6 w' ∧ ∀ b, b < wy.heap.size → b ≠ eb → w'.heap[b]? = wy.heap[b]?) from
                      ⟨_, _, ho.append_none 22, ho, hy, fun _ _ _ => rfl⟩))
                    have hP2 := hidden (fun (wy : World) (v2 : Value) (xb : Nat) (hy : Below w6.heap.size w6 wy) (ho : RgOwn w6.heap.size wy v2 (([] : List Rg).take 0)) (hx : wy.cell? ⟨xb, 0, none⟩ = some (.int .i64 x1) ∧ wy.cell? ⟨xb, 1, none⟩ = some (.int .i64 y1)) => (show ∃ v' w', (Builtin.append_ #[22, 22] 22 #[v2, .slice (some ⟨xb, 0, none⟩) 1 1]).run Try.prog wy = .ok v' w' ∧ (RgOwn w6.heap.size w' v' (([] : List Rg).take 0 ++ [(x1, y1)]) ∧ Below w6.heap.size w6 w') by
                      obtain ⟨v', w', q1, q2, q3, q4⟩ := rg_more ho (xv := .slice (some ⟨xb, 0, none⟩) 1 1) (R := [(x1, y1)]) (Or.inr ⟨xb, 0, 1, rfl, fun k z hk => by
                        match k with
                        | 0 => obtain rfl := Option.some.inj hk; exact hx
                        | k + 1 => simp at hk⟩) (by rw [hL1]; simp <;> omega) hy.size 22
                      exact ⟨v', w', q1, q2, hy.trans q3⟩))
                    have hP3 := hidden (fun (wy : World) (v3 : Value) (hy : Below w6.heap.size w6 wy) (ho : RgOwn w6.heap.size wy v3 (([] : List Rg).take 0 ++ [(x1, y1)])) => (show ∃ v' w', (Builtin.append_ #[22, 22] 22 #[v3, .slice none 0 0]).run Try.prog wy = .ok v' w' ∧ (RgOwn w6.heap.size w' v' (([] : List Rg).take 0 ++ [(x1, y1)] ++ ([] : List Rg).drop 0) ∧ Below w6.heap.size w6 w') from
                      ⟨_, _, ho.append_none 22, by rw [List.drop_nil, List.append_nil]; exact ho, hy⟩))
                    have hS0 : Below w6.heap.size w6 w6.drew := (Below.refl _ _).drew
                    have cx := (cx1.out w6.drew hS0).c0
                    have cy := (cx1.out w6.drew hS0).c1
                    have cxa := (cx1.out (w6.alloc (.cells #[] 25)) ((Below.refl _ _).alloc (Nat.le_refl _) _)).c0
                    have cya := (cx1.out (w6.alloc (.cells #[] 25)) ((Below.refl _ _).alloc (Nat.le_refl _) _)).c1
                    replace hS0 := hidden hS0
                    have o1 := hidden (rgOwn_new (base := w6.heap.size) w6.drew w6.heap.size rfl (Nat.le_refl _))
                    have o2 := hidden (fun (ob : Obj) => (rgOwn_new (base := w6.heap.size) w6.drew w6.heap.size rfl (Nat.le_refl _)).below ((Below.refl _ _).alloc (Nat.le_refl _) ob))
                    have o3 := hidden (fun (ob : Obj) => rgOwn_new (base := w6.heap.size) (w6.drew.alloc ob) (w6.heap.size + 1) (by simp) (by simp))
                    have b1 := hidden (fun (ob : Obj) => hS0.out.alloc hS0.out.size ob)
                    have b2 := hidden (fun (ob oc : Obj) => (hS0.out.alloc hS0.out.size ob).alloc (hS0.out.alloc hS0.out.size ob).size oc)
                    clear hL1 hL2 h1 hr0 hpart hR4 hX4 hX6
                    dsimp only [List.length_nil]
                    go_region_law (first
                      | (refine any_append_ex (s := .tmp 81) (x := .tmp 84) (t := 22) rfl rfl (.slice (some ⟨w6.heap.size, 0, none⟩) 0 0) (.slice none 0 0) rfl rfl (hP1.out _ w6.heap.size (b1.out _) o1.out) ?_; rintro v2 w2 ⟨hO2, hB2, hS2⟩; obtain ⟨cx2, cy2⟩ := (show w2.cell? ⟨bx, 0, none⟩ = some (.int .i64 x1) ∧ w2.cell? ⟨bx, 1, none⟩ = some (.int .i64 y1) from ⟨(cx1.out w2 hB2).c0, (cx1.out w2 hB2).c1⟩); replace hO2 := hidden hO2; replace hB2 := hidden hB2; replace hS2 := hidden hS2)
                      | (refine any_append_ex (s := .tmp 81) (x := .tmp 84) (t := 22) rfl rfl (.slice (some ⟨w6.heap.size, 0, none⟩) 0 0) (.slice none 0 0) rfl rfl (hP1.out _ w6.heap.size (b2.out _ _) (o2.out _)) ?_; rintro v2 w2 ⟨hO2, hB2, hS2⟩; obtain ⟨cx2, cy2⟩ := (show w2.cell? ⟨bx, 0, none⟩ = some (.int .i64 x1) ∧ w2.cell? ⟨bx, 1, none⟩ = some (.int .i64 y1) from ⟨(cx1.out w2 hB2).c0, (cx1.out w2 hB2).c1⟩); have hXc : Hid (w2.cell? ⟨w6.heap.size + 1, 0, none⟩ = some (.int .i64 x1) ∧ w2.cell? ⟨w6.heap.size + 1, 1, none⟩ = some (.int .i64 y1)) := hidden ⟨(cell_heap (hS2 _ (by simp <;> omega) (by simp <;> omega)) 0).trans (by simp), (cell_heap (hS2 _ (by simp <;> omega) (by simp <;> omega)) 1).trans (by simp)⟩; replace hO2 := hidden hO2; replace hB2 := hidden hB2; replace hS2 := hidden hS2)
                      | (refine any_append_ex (s := .tmp 81) (x := .tmp 84) (t := 22) rfl rfl (.slice (some ⟨w6.heap.size + 1, 0, none⟩) 0 0) (.slice none 0 0) rfl rfl (hP1.out _ (w6.heap.size + 1) (b2.out _ _) (o3.out _)) ?_; rintro v2 w2 ⟨hO2, hB2, hS2⟩; obtain ⟨cx2, cy2⟩ := (show w2.cell? ⟨bx, 0, none⟩ = some (.int .i64 x1) ∧ w2.cell? ⟨bx, 1, none⟩ = some (.int .i64 y1) from ⟨(cx1.out w2 hB2).c0, (cx1.out w2 hB2).c1⟩); have hXc : Hid (w2.cell? ⟨w6.heap.size, 0, none⟩ = some (.int .i64 x1) ∧ w2.cell? ⟨w6.heap.size, 1, none⟩ = some (.int .i64 y1)) := hidden ⟨(cell_heap (hS2 _ (by simp <;> omega) (by simp <;> omega)) 0).trans (by simp), (cell_heap (hS2 _ (by simp <;> omega) (by simp <;> omega)) 1).trans (by simp)⟩; replace hO2 := hidden hO2; replace hB2 := hidden hB2; replace hS2 := hidden hS2)
                      | (refine any_append_ex (s := .tmp 85) (x := .tmp 87) (t := 22) rfl rfl v2 (.slice (some ⟨w2.heap.size, 0, none⟩) 1 1) rfl rfl (hP2.out _ v2 w2.heap.size (hB2.out.alloc hB2.out.size _) (hO2.out.below ((Below.refl _ _).alloc (Nat.le_refl _) _)) ⟨by simp, by simp⟩) ?_; rintro v3 w3' ⟨hO3, hB3'⟩; replace hO3 := hidden hO3; replace hB3' := hidden hB3')
                      | (refine any_append_ex (s := .tmp 85) (x := .tmp 87) (t := 22) rfl rfl v2 (.slice (some ⟨w6.heap.size + 1, 0, none⟩) 1 1) rfl rfl (hP2.out w2 v2 (w6.heap.size + 1) hB2.out hO2.out hXc.out) ?_; rintro v3 w3' ⟨hO3, hB3'⟩; replace hO3 := hidden hO3; replace hB3' := hidden hB3')
                      | (refine any_append_ex (s := .tmp 85) (x := .tmp 87) (t := 22) rfl rfl v2 (.slice (some ⟨w6.heap.size, 0, none⟩) 1 1) rfl rfl (hP2.out w2 v2 w6.heap.size hB2.out hO2.out hXc.out) ?_; rintro v3 w3' ⟨hO3, hB3'⟩; replace hO3 := hidden hO3; replace hB3' := hidden hB3')
                      | (refine any_append_ex (s := .tmp 88) (x := .tmp 91) (t := 22) rfl rfl v3 (.slice none 0 0) rfl rfl (hP3.out w3' v3 hB3'.out hO3.out) ?_; rintro v4 w7 ⟨hO4, hB8⟩; replace hO4 := hidden hO4; replace hB8 := hidden hB8))
                    all_goals
                      have hE := hidden (hEnd.out _ _ hB8.out hO4.out)
                      clear hO4 hB8 hO3 hB3' hO2 hB2 hS2 cx2 cy2 cx cy cxa cya
                      go_wp2
                      go_roundg (L.length - (i + 1))
                      case measure => rw [hg.out]; omega
                      case rel => exact ⟨i + 1, hlt, rfl, by go_num, hE⟩
                  · obtain ⟨rfl, -, rfl⟩ := Value.slice.inj h1
                    have hg6 := fun (wy : World) (hy : Below w6.heap.size w6 wy) (k : Nat) (z : Rg) (hk : r[k]? = some z) => (show wy.cell? ⟨gb, k * 2, none⟩ = some (.int .i64 z.1) ∧ wy.cell? ⟨gb, k * 2 + 1, none⟩ = some (.int .i64 z.2) from
                      ⟨((hB6.out.trans (hy.mono hB6.out.size)).cell (p := ⟨gb, k * 2, none⟩) hgb).trans (hcl k z hk).1, ((hB6.out.trans (hy.mono hB6.out.size)).cell (p := ⟨gb, k * 2 + 1, none⟩) hgb).trans (hcl k z hk).2⟩)
                    obtain ⟨n, hn⟩ : ∃ n, r.length = n := ⟨_, rfl⟩
                    have hP1 := hidden (fun (wy : World) (eb : Nat) (hy : Below w6.heap.size w6 wy) (ho : RgOwn w6.heap.size wy (.slice (some ⟨eb, 0, none⟩) 0 0) []) => (show ∃ v' w', (Builtin.append_ #[22, 22] 22 #[.slice (some ⟨eb, 0, none⟩) 0 0, .slice (some ⟨gb, 0, none⟩) j cr]).run Try.prog wy = .ok v' w' ∧ (RgOwn w6.heap.size w' v' (r.take j) ∧ Below w6.heap.size w6 w' ∧ ∀ b, b < wy.heap.size → b ≠ eb → w'.heap[b]? = wy.heap[b]?) by
                      obtain ⟨v', w', q1, q2, q3, q4⟩ := rg_more ho (xv := .slice (some ⟨gb, 0, none⟩) j cr) (R := r.take j) (Or.inr ⟨gb, 0, cr, by rw [hL1], fun k z hk => by
                        rw [Nat.zero_add]
                        refine hg6 wy hy k z ?_
                        rw [List.getElem?_take] at hk
                        split at hk
                        · exact hk
                        · cases hk⟩) (by rw [hL1]; simp <;> omega) hy.size 22
                      exact ⟨v', w', q1, by simpa using q2, hy.trans q3, fun b hb hne => q4 b hb (fun h => hne (Option.some.inj h))⟩))
                    have hP2 := hidden (fun (wy : World) (v2 : Value) (xb : Nat) (hy : Below w6.heap.size w6 wy) (ho : RgOwn w6.heap.size wy v2 (r.take j)) (hx : wy.cell? ⟨xb, 0, none⟩ = some (.int .i64 x1) ∧ wy.cell? ⟨xb, 1, none⟩ = some (.int .i64 y1)) => (show ∃ v' w', (Builtin.append_ #[22, 22] 22 #[v2, .slice (some ⟨xb, 0, none⟩) 1 1]).run Try.prog wy = .ok v' w' ∧ (RgOwn w6.heap.size w' v' (r.take j ++ [(x1, y1)]) ∧ Below w6.heap.size w6 w') by
                      obtain ⟨v', w', q1, q2, q3, q4⟩ := rg_more ho (xv := .slice (some ⟨xb, 0, none⟩) 1 1) (R := [(x1, y1)]) (Or.inr ⟨xb, 0, 1, rfl, fun k z hk => by
                        match k with
                        | 0 => obtain rfl := Option.some.inj hk; exact hx
                        | k + 1 => simp at hk⟩) (by rw [hL1]; simp <;> omega) hy.size 22
                      exact ⟨v', w', q1, q2, hy.trans q3⟩))
                    have hP3 := hidden (fun (wy : World) (v3 : Value) (o n1 c1 : Nat) (ha : o = j * 2 ∨ n - j = 0) (h1 : n1 = n - j) (hy : Below w6.heap.size w6 wy) (ho : RgOwn w6.heap.size wy v3 (r.take j ++ [(x1, y1)])) => (show ∃ v' w', (Builtin.append_ #[22, 22] 22 #[v3, .slice (some ⟨gb, o, none⟩) n1 c1]).run Try.prog wy = .ok v' w' ∧ (RgOwn w6.heap.size w' v' (r.take j ++ [(x1, y1)] ++ r.drop j) ∧ Below w6.heap.size w6 w') by
                      subst h1
                      obtain ⟨v', w', q1, q2, q3, q4⟩ := rg_more ho (xv := .slice (some ⟨gb, o, none⟩) (n - j) c1) (R := r.drop j) (Or.inr ⟨gb, o, c1, by rw [hL2, hn], fun k z hk => by
                        rcases ha with ha | ha
                        · subst ha
                          rw [List.getElem?_drop] at hk
                          have := hg6 wy hy _ z hk
                          rw [show j * 2 + k * 2 = (j + k) * 2 by omega]
                          exact this
                        · exfalso
                          have := (List.getElem?_eq_some_iff.1 hk).1
                          omega⟩) (by rw [hL2, List.length_append, hL1]; simp; omega) hy.size 22
                      exact ⟨v', w', q1, q2, hy.trans q3⟩))
                    have hS0 : Below w6.heap.size w6 w6.drew := (Below.refl _ _).drew
                    have cx := (cx1.out w6.drew hS0).c0
                    have cy := (cx1.out w6.drew hS0).c1
                    have cxa := (cx1.out (w6.alloc (.cells #[] 25)) ((Below.refl _ _).alloc (Nat.le_refl _) _)).c0
                    have cya := (cx1.out (w6.alloc (.cells #[] 25)) ((Below.refl _ _).alloc (Nat.le_refl _) _)).c1
                    replace hS0 := hidden hS0
                    have o1 := hidden (rgOwn_new (base := w6.heap.size) w6.drew w6.heap.size rfl (Nat.le_refl _))
                    have o2 := hidden (fun (ob : Obj) => (rgOwn_new (base := w6.heap.size) w6.drew w6.heap.size rfl (Nat.le_refl _)).below ((Below.refl _ _).alloc (Nat.le_refl _) ob))
                    have o3 := hidden (fun (ob : Obj) => rgOwn_new (base := w6.heap.size) (w6.drew.alloc ob) (w6.heap.size + 1) (by simp) (by simp))
                    have b1 := hidden (fun (ob : Obj) => hS0.out.alloc hS0.out.size ob)
                    have b2 := hidden (fun (ob oc : Obj) => (hS0.out.alloc hS0.out.size ob).alloc (hS0.out.alloc hS0.out.size ob).size oc)
                    rw [hn] at hcp hj ⊢
                    have hjc : (j : Int) ≤ (cr : Int) := by omega
                    have hji : (j : Int) ≤ (n : Int) := by omega
                    have hic : (n : Int) ≤ (cr : Int) := by omega
                    have hn32 : n ≤ 32 := by omega
                    replace hn := hidden hn
                    clear hL1 hL2 hg6 hcl h1 hpart hR4 hX4 hX6
                    by_cases hcj : cr = j
                    · have hij0 := hidden (show n - j = 0 by omega)
                      subst hcj
                      go_region_law (first
                        | (refine any_append_ex (s := .tmp 81) (x := .tmp 84) (t := 22) rfl rfl (.slice (some ⟨w6.heap.size, 0, none⟩) 0 0) (.slice (some ⟨gb, 0, none⟩) cr cr) rfl rfl (hP1.out _ w6.heap.size (b1.out _) o1.out) ?_; rintro v2 w2 ⟨hO2, hB2, hS2⟩; obtain ⟨cx2, cy2⟩ := (show w2.cell? ⟨bx, 0, none⟩ = some (.int .i64 x1) ∧ w2.cell? ⟨bx, 1, none⟩ = some (.int .i64 y1) from ⟨(cx1.out w2 hB2).c0, (cx1.out w2 hB2).c1⟩); replace hO2 := hidden hO2; replace hB2 := hidden hB2; replace hS2 := hidden hS2)
                        | (refine any_append_ex (s := .tmp 81) (x := .tmp 84) (t := 22) rfl rfl (.slice (some ⟨w6.heap.size, 0, none⟩) 0 0) (.slice (some ⟨gb, 0, none⟩) cr cr) rfl rfl (hP1.out _ w6.heap.size (b2.out _ _) (o2.out _)) ?_; rintro v2 w2 ⟨hO2, hB2, hS2⟩; obtain ⟨cx2, cy2⟩ := (show w2.cell? ⟨bx, 0, none⟩ = some (.int .i64 x1) ∧ w2.cell? ⟨bx, 1, none⟩ = some (.int .i64 y1) from ⟨(cx1.out w2 hB2).c0, (cx1.out w2 hB2).c1⟩); have hXc : Hid (w2.cell? ⟨w6.heap.size + 1, 0, none⟩ = some (.int .i64 x1) ∧ w2.cell? ⟨w6.heap.size + 1, 1, none⟩ = some (.int .i64 y1)) := hidden ⟨(cell_heap (hS2 _ (by simp <;> omega) (by simp <;> omega)) 0).trans (by simp), (cell_heap (hS2 _ (by simp <;> omega) (by simp <;> omega)) 1).trans (by simp)⟩; replace hO2 := hidden hO2; replace hB2 := hidden hB2; replace hS2 := hidden hS2)
                        | (refine any_append_ex (s := .tmp 81) (x := .tmp 84) (t := 22) rfl rfl (.slice (some ⟨w6.heap.size + 1, 0, none⟩) 0 0) (.slice (some ⟨gb, 0, none⟩) cr cr) rfl rfl (hP1.out _ (w6.heap.size + 1) (b2.out _ _) (o3.out _)) ?_; rintro v2 w2 ⟨hO2, hB2, hS2⟩; obtain ⟨cx2, cy2⟩ := (show w2.cell? ⟨bx, 0, none⟩ = some (.int .i64 x1) ∧ w2.cell? ⟨bx, 1, none⟩ = some (.int .i64 y1) from ⟨(cx1.out w2 hB2).c0, (cx1.out w2 hB2).c1⟩); have hXc : Hid (w2.cell? ⟨w6.heap.size, 0, none⟩ = some (.int .i64 x1) ∧ w2.cell? ⟨w6.heap.size, 1, none⟩ = some (.int .i64 y1)) := hidden ⟨(cell_heap (hS2 _ (by simp <;> omega) (by simp <;> omega)) 0).trans (by simp), (cell_heap (hS2 _ (by simp <;> omega) (by simp <;> omega)) 1).trans (by simp)⟩; replace hO2 := hidden hO2; replace hB2 := hidden hB2; replace hS2 := hidden hS2)
                        | (refine any_append_ex (s := .tmp 85) (x := .tmp 87) (t := 22) rfl rfl v2 (.slice (some ⟨w2.heap.size, 0, none⟩) 1 1) rfl rfl (hP2.out _ v2 w2.heap.size (hB2.out.alloc hB2.out.size _) (hO2.out.below ((Below.refl _ _).alloc (Nat.le_refl _) _)) ⟨by simp, by simp⟩) ?_; rintro v3 w3' ⟨hO3, hB3'⟩; replace hO3 := hidden hO3; replace hB3' := hidden hB3')
                        | (refine any_append_ex (s := .tmp 85) (x := .tmp 87) (t := 22) rfl rfl v2 (.slice (some ⟨w6.heap.size + 1, 0, none⟩) 1 1) rfl rfl (hP2.out w2 v2 (w6.heap.size + 1) hB2.out hO2.out hXc.out) ?_; rintro v3 w3' ⟨hO3, hB3'⟩; replace hO3 := hidden hO3; replace hB3' := hidden hB3')
                        | (refine any_append_ex (s := .tmp 85) (x := .tmp 87) (t := 22) rfl rfl v2 (.slice (some ⟨w6.heap.size, 0, none⟩) 1 1) rfl rfl (hP2.out w2 v2 w6.heap.size hB2.out hO2.out hXc.out) ?_; rintro v3 w3' ⟨hO3, hB3'⟩; replace hO3 := hidden hO3; replace hB3' := hidden hB3')
                        | (refine any_append_ex (s := .tmp 88) (x := .tmp 91) (t := 22) rfl rfl v3 _ rfl rfl (hP3.out w3' v3 _ _ _ (by first | exact Or.inl rfl | (right; exact hij0.out)) (by first | rfl | exact hij0.out.symm) hB3'.out hO3.out) ?_; rintro v4 w7 ⟨hO4, hB8⟩; replace hO4 := hidden hO4; replace hB8 := hidden hB8))
                      all_goals
                        have hE := hidden (hEnd.out _ _ hB8.out hO4.out)
                        clear hO4 hB8 hO3 hB3' hO2 hB2 hS2 cx2 cy2 cx cy cxa cya
                        go_wp2
                        go_roundg (L.length - (i + 1))
                        case measure => rw [hg.out]; omega
                        case rel => exact ⟨i + 1, hlt, rfl, by go_num, hE⟩
                    · have hcj2 := hidden (show j < cr by omega)
                      go_region_law (first
                        | (refine any_append_ex (s := .tmp 81) (x := .tmp 84) (t := 22) rfl rfl (.slice (some ⟨w6.heap.size, 0, none⟩) 0 0) (.slice (some ⟨gb, 0, none⟩) j cr) rfl rfl (hP1.out _ w6.heap.size (b1.out _) o1.out) ?_; rintro v2 w2 ⟨hO2, hB2, hS2⟩; obtain ⟨cx2, cy2⟩ := (show w2.cell? ⟨bx, 0, none⟩ = some (.int .i64 x1) ∧ w2.cell? ⟨bx, 1, none⟩ = some (.int .i64 y1) from ⟨(cx1.out w2 hB2).c0, (cx1.out w2 hB2).c1⟩); replace hO2 := hidden hO2; replace hB2 := hidden hB2; replace hS2 := hidden hS2)
                        | (refine any_append_ex (s := .tmp 81) (x := .tmp 84) (t := 22) rfl rfl (.slice (some ⟨w6.heap.size, 0, none⟩) 0 0) (.slice (some ⟨gb, 0, none⟩) j cr) rfl rfl (hP1.out _ w6.heap.size (b2.out _ _) (o2.out _)) ?_; rintro v2 w2 ⟨hO2, hB2, hS2⟩; obtain ⟨cx2, cy2⟩ := (show w2.cell? ⟨bx, 0, none⟩ = some (.int .i64 x1) ∧ w2.cell? ⟨bx, 1, none⟩ = some (.int .i64 y1) from ⟨(cx1.out w2 hB2).c0, (cx1.out w2 hB2).c1⟩); have hXc : Hid (w2.cell? ⟨w6.heap.size + 1, 0, none⟩ = some (.int .i64 x1) ∧ w2.cell? ⟨w6.heap.size + 1, 1, none⟩ = some (.int .i64 y1)) := hidden ⟨(cell_heap (hS2 _ (by simp <;> omega) (by simp <;> omega)) 0).trans (by simp), (cell_heap (hS2 _ (by simp <;> omega) (by simp <;> omega)) 1).trans (by simp)⟩; replace hO2 := hidden hO2; replace hB2 := hidden hB2; replace hS2 := hidden hS2)
                        | (refine any_append_ex (s := .tmp 81) (x := .tmp 84) (t := 22) rfl rfl (.slice (some ⟨w6.heap.size + 1, 0, none⟩) 0 0) (.slice (some ⟨gb, 0, none⟩) j cr) rfl rfl (hP1.out _ (w6.heap.size + 1) (b2.out _ _) (o3.out _)) ?_; rintro v2 w2 ⟨hO2, hB2, hS2⟩; obtain ⟨cx2, cy2⟩ := (show w2.cell? ⟨bx, 0, none⟩ = some (.int .i64 x1) ∧ w2.cell? ⟨bx, 1, none⟩ = some (.int .i64 y1) from ⟨(cx1.out w2 hB2).c0, (cx1.out w2 hB2).c1⟩); have hXc : Hid (w2.cell? ⟨w6.heap.size, 0, none⟩ = some (.int .i64 x1) ∧ w2.cell? ⟨w6.heap.size, 1, none⟩ = some (.int .i64 y1)) := hidden ⟨(cell_heap (hS2 _ (by simp <;> omega) (by simp <;> omega)) 0).trans (by simp), (cell_heap (hS2 _ (by simp <;> omega) (by simp <;> omega)) 1).trans (by simp)⟩; replace hO2 := hidden hO2; replace hB2 := hidden hB2; replace hS2 := hidden hS2)
                        | (refine any_append_ex (s := .tmp 85) (x := .tmp 87) (t := 22) rfl rfl v2 (.slice (some ⟨w2.heap.size, 0, none⟩) 1 1) rfl rfl (hP2.out _ v2 w2.heap.size (hB2.out.alloc hB2.out.size _) (hO2.out.below ((Below.refl _ _).alloc (Nat.le_refl _) _)) ⟨by simp, by simp⟩) ?_; rintro v3 w3' ⟨hO3, hB3'⟩; replace hO3 := hidden hO3; replace hB3' := hidden hB3')
                        | (refine any_append_ex (s := .tmp 85) (x := .tmp 87) (t := 22) rfl rfl v2 (.slice (some ⟨w6.heap.size + 1, 0, none⟩) 1 1) rfl rfl (hP2.out w2 v2 (w6.heap.size + 1) hB2.out hO2.out hXc.out) ?_; rintro v3 w3' ⟨hO3, hB3'⟩; replace hO3 := hidden hO3; replace hB3' := hidden hB3')
                        | (refine any_append_ex (s := .tmp 85) (x := .tmp 87) (t := 22) rfl rfl v2 (.slice (some ⟨w6.heap.size, 0, none⟩) 1 1) rfl rfl (hP2.out w2 v2 w6.heap.size hB2.out hO2.out hXc.out) ?_; rintro v3 w3' ⟨hO3, hB3'⟩; replace hO3 := hidden hO3; replace hB3' := hidden hB3')
                        | (refine any_append_ex (s := .tmp 88) (x := .tmp 91) (t := 22) rfl rfl v3 _ rfl rfl (hP3.out w3' v3 _ _ _ (by first | exact Or.inl rfl | (right; omega)) rfl hB3'.out hO3.out) ?_; rintro v4 w7 ⟨hO4, hB8⟩; replace hO4 := hidden hO4; replace hB8 := hidden hB8))
                      all_goals
                        have hE := hidden (hEnd.out _ _ hB8.out hO4.out)
                        clear hO4 hB8 hO3 hB3' hO2 hB2 hS2 cx2 cy2 cx cy cxa cya
                        go_wp2
                        go_roundg (L.length - (i + 1))
                        case measure => rw [hg.out]; omega
                        case rel => exact ⟨i + 1, hlt, rfl, by go_num, hE⟩
    · obtain rfl : i = L.length := by omega
      have hE := hidden (show RgAt wr u3 R ∧ Below w.heap.size w wr from ⟨by have := hO.at; rwa [hFE.out] at this, hB⟩)
      clear hO hB hI
      go_wp2
      go_ret
      exact ⟨⟨_, rfl, hE.out.1⟩, hE.out.2⟩
end Go.Proofs.Ytfnfhabepadikaa
