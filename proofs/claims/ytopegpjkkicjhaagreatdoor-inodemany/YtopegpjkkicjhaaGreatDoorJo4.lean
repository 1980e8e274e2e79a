/- The journal's written, span and group. -/
import Derived.Test.YtopegpjkkicjhaaGreatDoorJo3
namespace Go.Proofs.YtopegpjkkicjhaaGreatDoor
open Go.RowKit Go.Extern.Stop Go.Stop Go.Extern
set_option maxRecDepth 100000

/-- append, by what it answers. -/
theorem wpList_append_eq {P : Program} {ops : Array Oper} {rest : List Oper} {o : Oper} {a : Act} {w : World} {Q : Exit → Act → World → Prop} (s x : Operand) (t : TypeId)
    (ho : o.op = .call { callee := .builtin .append, args := #[s, x], argTypes := #[t, t] }) (v xv v' : Value) (w' : World) (hs : a.eval s = v) (hx : a.eval x = xv)
    (hr : (Builtin.append_ #[t, t] o.type #[v, xv]).run P w = .ok v' w') (hg : Region.wanted o (yielded ops a.tmps) = true) (h : wpList P ops Q rest (a.put o.dst v') w') : wpList P ops Q (o :: rest) a w :=
  wpList_step fun K hK => by
    rw [if_pos hg]
    unfold Oper.wp execOp
    simp only [ho, resolve, invoke, builtin, Sem.run_bind, Sem.run_pure, Result.andThen_ok, List.map_toArray, List.map_cons, List.map_nil, hs, hx, hr]
    exact hK _ _ h
/-- A row of bytes of one's own, or none yet. -/
structure OwnV (base : Nat) (w : World) (v : Value) (zs : List Int) : Prop where
  row : w.ownsRow base 5 1 v zs.length (zs.map (Value.int .u8))
  range : ∀ z ∈ zs, 0 ≤ z ∧ z ≤ 255
theorem OwnB.toV {base : Nat} {w : World} {b n cap : Nat} {zs : List Int} (h : OwnB base w b n cap zs) : OwnV base w (.slice (some ⟨b, 0, none⟩) n cap) zs := ⟨by have := h.row; rw [← h.len] at this ⊢; exact this, h.range⟩
theorem OwnV.form {base : Nat} {w : World} {v : Value} {zs : List Int} (h : OwnV base w v zs) (hz : zs ≠ []) : ∃ b cap, v = .slice (some ⟨b, 0, none⟩) zs.length cap ∧ OwnB base w b zs.length cap zs := by
  rcases h.row.2 with ⟨_, h0⟩ | ⟨g', cap', cur, rfl, hrest⟩
  · exact absurd (List.length_eq_zero_iff.1 h0) hz
  · exact ⟨g', cap', rfl, h.row, rfl, h.range⟩
theorem OwnV.nil (base : Nat) (w : World) : OwnV base w (.slice none 0 0) [] := ⟨World.ownsRow_nil w base _ _, fun z hz => by cases hz⟩
theorem OwnV.below {base : Nat} {w w' : World} {v : Value} {zs : List Int} (h : OwnV base w v zs) (hb : Below w.heap.size w w') : OwnV base w' v zs := by
  by_cases hz : zs = []
  · subst hz
    rcases h.row.2 with ⟨rfl, _⟩ | ⟨g', cap', cur, rfl, h1, h2, rest⟩
    · exact OwnV.nil _ _
    · exact ⟨⟨h.row.1, .inr ⟨g', cap', cur, rfl, h1, (hb.block g' (by rcases Nat.lt_or_ge g' w.heap.size with h | h; exact h; rw [Array.getElem?_eq_none h] at h2; cases h2)).trans h2, rest⟩⟩, h.range⟩
  · obtain ⟨b, cap, rfl, hB⟩ := h.form hz
    exact (hB.below hb).toV
/-- Bytes behind a row of one's own. -/
theorem ownV_append {base : Nat} {w : World} {v : Value} {zs : List Int} (h : OwnV base w v zs) (x : Value) (ys : List Int) (hx : BytesAt w x ys) (hy : ys ≠ []) (hn : zs.length + ys.length ≤ 1000000) (hbase : base ≤ w.heap.size) (ty : TypeId) :
    ∃ v' w', (Builtin.append_ #[34, 34] ty #[v, x]).run Tryz.prog w = .ok v' w' ∧ OwnV base w' v' (zs ++ ys) ∧ Below base w w' := by
  obtain ⟨a, cap, rfl, hr, hm, -, hc⟩ := hx
  obtain ⟨b, off, rfl, hlt, hcell⟩ := hc hy
  obtain ⟨i0, hi, hz0, hz1, hz2⟩ := info_parts3 Tryz.infoByte
  obtain ⟨v', w', hrun, hown, hgrow, -⟩ := run_append_own (P := Tryz.prog) w base 34 ty 5 i0 (.int .u8 0) 1 1 Tryz.underlying34 hi hz0 hz1 hz2 (by simp [Value.cells]) (by decide)
    v zs.length _ h.row ⟨b, off, none⟩ ys.length cap (ys.map (Value.int .u8)) (by simp) (fun j u hu => by
      have hj : j < ys.length := by
        rcases Nat.lt_or_ge j ys.length with h | h
        · exact h
        · rw [List.getElem?_eq_none (by simpa using h)] at hu; cases hu
      rw [Go.WideShapes.add_plain, hcell j hj, ← getD_map hj]
      exact hu) (by intro u hu; obtain ⟨z, _, rfl⟩ := List.mem_map.1 hu; rfl) (by unfold maxLen; omega) (by omega) hbase
  refine ⟨v', w', hrun, ⟨?_, fun z hz => ?_⟩, (Below.refl base w).grown hgrow hbase (fun k hk => (h.row.lt k hk).1)⟩
  · rw [List.length_append, List.map_append]; exact hown
  · rcases List.mem_append.1 hz with h' | h'
    · exact h.range z h'
    · exact hr z h'

/-- A group as it lies in memory. -/
def GAt (w : World) (v : Value) (xs : List (Int × List Int)) : Prop :=
  ∃ a cap, v = .slice a xs.length cap ∧ xs.length ≤ 1000 ∧ (xs ≠ [] → ∃ b off, a = some ⟨b, off, none⟩ ∧ b < w.heap.size ∧
    ∀ k, k < xs.length → w.cell? ⟨b, off + k * 2, none⟩ = some (.int .i64 (xs.getD k (0, [])).1) ∧ ∃ x, w.cell? ⟨b, off + k * 2 + 1, none⟩ = some x ∧ BytesAt w x (xs.getD k (0, [])).2)
theorem GAt.below {w w' : World} {v : Value} {xs : List (Int × List Int)} (h : GAt w v xs) (hb : Below w.heap.size w w') : GAt w' v xs := by
  obtain ⟨a, cap, hv, hl, hc⟩ := h
  refine ⟨a, cap, hv, hl, fun hne => ?_⟩
  obtain ⟨b, off, ha, hlt, hk⟩ := hc hne
  refine ⟨b, off, ha, Nat.lt_of_lt_of_le hlt hb.size, fun k hlk => ?_⟩
  obtain ⟨h1, x, h2, h3⟩ := hk k hlk
  exact ⟨(hb.cell (p := ⟨b, off + k * 2, none⟩) hlt).trans h1, x, (hb.cell (p := ⟨b, off + k * 2 + 1, none⟩) hlt).trans h2, h3.below hb⟩
theorem GAt.cells {w : World} {gb off n cap : Nat} {xs : List (Int × List Int)} (h : GAt w (.slice (some ⟨gb, off, none⟩) n cap) xs) (k : Nat) (hk : k < xs.length) :
    w.cell? ⟨gb, off + k * 2, none⟩ = some (.int .i64 (xs.getD k (0, [])).1) ∧ ∃ a dcap, w.cell? ⟨gb, off + k * 2 + 1, none⟩ = some (.slice a (xs.getD k (0, [])).2.length dcap) ∧ BytesAt w (.slice a (xs.getD k (0, [])).2.length dcap) (xs.getD k (0, [])).2 := by
  obtain ⟨a, cap', hv, -, hc⟩ := h
  obtain ⟨b, off', ha, -, hcell⟩ := hc (by intro e; rw [e] at hk; simp at hk)
  have he := (Value.slice.inj hv).1
  subst ha
  simp only [Option.some.injEq, Addr.mk.injEq] at he
  obtain ⟨rfl, rfl, -⟩ := he
  obtain ⟨h1, x, h2, h3⟩ := hcell k hk
  obtain ⟨a3, c3, rfl, rest⟩ := h3
  exact ⟨h1, a3, c3, h2, a3, c3, rfl, rest⟩
theorem GAt.lt {w : World} {gb off n cap : Nat} {xs : List (Int × List Int)} (h : GAt w (.slice (some ⟨gb, off, none⟩) n cap) xs) (hk : 0 < xs.length) : gb < w.heap.size := lt_of_cell (a := ⟨gb, off + 0 * 2, none⟩) (h.cells 0 hk).1
/-- A group whose numbers are blocks. -/
def up (l : Grp) : List (Int × List Int) := l.map fun p => ((p.1 : Int), p.2)
theorem up_len (l : Grp) : (up l).length = l.length := by simp [up]
theorem up_get (l : Grp) (k : Nat) : (up l).getD k (0, []) = ((nob l k : Int), dat l k) := by
  simp only [up, List.getD, List.getElem?_map]
  cases h : l[k]? <;> simp [nob, dat, List.getD, h]
set_option maxHeartbeats 2000000 in
theorem written_calls (l : Grp) (hl : ∀ j, j < l.length → (dat l j).length = 128) (hn : ∀ j, j < l.length → nob l j < 1000000) (h1 : 1 ≤ l.length) (h2 : l.length ≤ 200) (v : Value) (w : World) (h : GAt w v (up l)) :
    Calls Tryz.prog 131 #[v] w fun e w' => ∃ b cap, e = .returned (.slice (some ⟨b, 0, none⟩) (size l * 128) cap) ∧ OwnB w.heap.size w' b (size l * 128) cap (bodyL l) ∧ Below w.heap.size w w' := by
  have hH := hidden h
  obtain ⟨a, cap, rfl, -, hc⟩ := h
  rw [up_len] at hc ⊢ hH
  obtain ⟨gb, off, rfl, hlt, -⟩ := hc (by intro e; have := up_len l; rw [e] at this; simp at this; omega)
  have hrw := rowsN_le l.length
  have hR := hidden (rows_calls l.length (by omega) w)
  have hmk := make_bytes (rowsN l.length * 128) (by omega) w
  have hO0 : Hid (OwnB w.heap.size (w.alloc (.cells (Array.replicate (rowsN l.length * 128) (.int .u8 0)) 5)) w.heap.size (rowsN l.length * 128) (rowsN l.length * 128) (bodyK l 0)) := hidden (by
    have := ownB_zero w w.heap.size (Nat.le_refl _) (rowsN l.length * 128) (by omega)
    rw [show bodyK l 0 = List.replicate (rowsN l.length * 128) 0 by simp [bodyK, numK, datK]]; exact this)
  have hlen := hidden (bodyK_len l hl)
  have hsz : Hid (∀ k, k < l.length → 8 * k + 8 ≤ rowsN l.length * 128) := hidden (fun k hk => rowsN_room _ _ hk)
  obtain ⟨M, hM⟩ : ∃ M, rowsN l.length * 128 = M := ⟨_, rfl⟩
  rw [hM] at hmk hO0
  have hps : ((rowsN l.length : Nat) : Int) * 128 = (M : Int) := by omega
  have hM2 : M ≤ 100000 := by omega
  replace hM := hidden hM
  clear hc
  go_enter Tryz.func131, Tryz.ntmps131
  go_wp2_with fail
  refine (hR.out).mono ?_
  rintro ev w1 ⟨rfl, rfl⟩
  go_wp2
  go_loopg [3, 13] l.length (fun gk t q wr => ∃ k : Nat, k ≤ l.length ∧ gk = l.length - k ∧ q = .int .i64 k ∧ Hid (∃ b cap, t = .slice (some ⟨b, 0, none⟩) ((rowsN l.length + k) * 128) cap ∧ OwnB w1.heap.size wr b ((rowsN l.length + k) * 128) cap (bodyK l k) ∧ Below w1.heap.size w1 wr))
  case atStart => exact ⟨0, by omega, rfl, rfl, hidden ⟨_, _, by rw [Nat.add_zero, hM.out], by rw [Nat.add_zero, hM.out]; exact hO0.out, (Below.refl _ _).alloc (Nat.le_refl _) _⟩⟩
  case round =>
    obtain ⟨k, hk, hgk, rfl, hI⟩ := hrel
    replace hgk := hidden hgk
    obtain ⟨b, cap2, rfl, hO, hB⟩ := hI.out
    clear hI
    by_cases hlt : k < l.length
    · obtain ⟨hc1, da, dcap, hc2, hDt⟩ := hH.out.cells k (by rw [up_len]; exact hlt)
      have hgb := hH.out.lt (by rw [up_len]; omega)
      replace hc1 := (hB.cell (p := ⟨gb, off + k * 2, none⟩) hgb).trans hc1
      replace hc2 := (hB.cell (p := ⟨gb, off + k * 2 + 1, none⟩) hgb).trans hc2
      rw [up_get] at hc1 hc2 hDt
      simp only at hc1 hc2 hDt
      rw [hl k hlt] at hc2 hDt
      have hno := hn k hlt
      have hst := hidden (bodyK_succ l k hlt)
      have hroom := hsz.out k hlt
      replace hDt := hidden hDt
      replace hO := hidden hO
      replace hB := hidden hB
      generalize dat l k = D at hDt hst
      generalize nob l k = X at hc1 hno hst
      go_wp2_with fail
      have hBa : Below wr.heap.size wr (wr.alloc (.cells #[.int .i64 X, .slice da 128 dcap] 134)) := (Below.refl _ _).alloc (Nat.le_refl _) _
      have hca : (wr.alloc (.cells #[.int .i64 X, .slice da 128 dcap] 134)).cell? ⟨wr.heap.size, 1, none⟩ = some (.slice da 128 dcap) := by simp
      have hsa : (wr.alloc (.cells #[.int .i64 X, .slice da 128 dcap] 134)).heap.size = wr.heap.size + 1 := by simp
      generalize wr.alloc (.cells #[.int .i64 X, .slice da 128 dcap] 134) = w2 at hBa hca hsa ⊢
      refine (put_calls w1.heap.size b _ cap2 _ k X w2 (hO.out.below hBa) (by omega) (by omega) (by omega) (by omega)).mono ?_
      rintro ev w3 ⟨rfl, hO3, hA3⟩
      have hbl := hO.out.lt
      have hcb : w3.cell? ⟨wr.heap.size, 1, none⟩ = some (.slice da 128 dcap) := (hA3.cell (p := ⟨wr.heap.size, 1, none⟩) (by show wr.heap.size < _; omega) (by simp; omega)).trans hca
      have hB3 : Below w1.heap.size w1 w3 := (hB.out.trans (hBa.mono hB.out.size)).trans (hA3.below (by simp; omega) (Nat.le_trans hB.out.size hBa.size))
      have hDl : D.length = 128 := by obtain ⟨_, _, hv, -⟩ := hDt.out; exact ((Value.slice.inj hv).2.1).symm
      have hD3 : BytesAt w3 (.slice da 128 dcap) D := hDt.out.below hB3
      clear hBa hca hO hB hA3
      obtain ⟨v4, w4, hrun, hV4, hB4⟩ := ownV_append hO3.toV (.slice da 128 dcap) D hD3 (by intro e; rw [e] at hDl; simp at hDl) (by rw [putK_len, hlen.out k hk]; omega) (Nat.le_trans hB3.size (Nat.le_refl _)) 34
      replace hrun := hidden hrun
      have hE := hidden (And.intro hV4 (hB3.trans hB4))
      clear hV4 hB4 hB3 hO3
      go_wp2_with (at_builtin; refine wpList_append_eq _ _ 34 rfl _ _ v4 w4 rfl rfl hrun.out rfl ?_)
      go_roundg (l.length - (k + 1))
      case measure => rw [hgk.out]; omega
      case rel =>
        refine ⟨k + 1, hlt, rfl, by go_num, hidden ?_⟩
        obtain ⟨hV, hB⟩ := hE.out
        rw [← hst.out] at hV
        have hl5 := hlen.out (k + 1) hlt
        obtain ⟨b5, cap5, rfl, hO5⟩ := hV.form (by intro e; rw [e, List.length_nil] at hl5; omega)
        rw [hl5] at hO5 ⊢
        exact ⟨b5, cap5, rfl, hO5, hB⟩
    · obtain rfl : k = l.length := by omega
      have hE := hidden (And.intro hO hB)
      clear hO hB
      go_wp2
      go_ret
      exact ⟨b, cap2, rfl, hE.out⟩
end Go.Proofs.YtopegpjkkicjhaaGreatDoor
