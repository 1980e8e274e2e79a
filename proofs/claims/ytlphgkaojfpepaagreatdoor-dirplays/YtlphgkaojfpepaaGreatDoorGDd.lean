/- A directory between two calls: records, lay, cut. -/
import Derived.Test.YtlphgkaojfpepaaGreatDoorGDc
import Derived.Test.YtlphgkaojfpepaaGreatDoorGIi
namespace Go.Proofs.YtlphgkaojfpepaaGreatDoor
open Go.RowKit Go.Extern.Stop Go.Stop Go.Extern Go.Maps Go.Sort Go.Shelf
set_option maxRecDepth 100000

theorem RecOwn.mono {T : TypeId} {base base' : Nat} {w : World} {v : Value} {L : List Rec} (h : RecOwn T base w v L) (hb : base' ≤ base) : RecOwn T base' w v L := ⟨⟨h.row.1, by
  rcases h.row.2 with h2 | ⟨g', cap', cur, hv, h1, rest⟩
  · exact .inl h2
  · exact .inr ⟨g', cap', cur, hv, Nat.le_trans hb h1, rest⟩⟩⟩
/-- A directory at block db, inode 1 of a Table; its bytes are b. -/
structure DB (E : TE) (db : Nat) (b : List Int) (w : World) : Prop where
  s : ∃ K D f lim, S8 E K D f lim w ∧ K 1 = 2 ∧ D 1 = b ∧ (f : Int) + blk (b.length : Int) = 60
  d0 : w.cell? ⟨db, 0, none⟩ = some (ptr E.tb)
  d1 : w.cell? ⟨db, 1, none⟩ = some (.int .i64 1)
  dm : db ≠ E.mb
structure EOk (E : TE) : Prop where
  ok : E.Ok
  tn : E.tn = 6
section
variable {E : TE} {db : Nat} {b : List Int} {w w' : World}
theorem DB.lt (h : DB E db b w) : db < w.heap.size := lt_of_cell (a := ⟨db, 0, none⟩) h.d0
theorem DB.more (h : DB E db b w) (hb : Below w.heap.size w w') : DB E db b w' := by
  obtain ⟨K, D, f, lim, h1, h2⟩ := h.s
  exact ⟨⟨K, D, f, lim, h1.more hb, h2⟩, (hb.cell (p := ⟨db, 0, none⟩) h.lt).trans h.d0, (hb.cell (p := ⟨db, 1, none⟩) h.lt).trans h.d1, h.dm⟩
theorem DB.over (h : DB E db b w) {B : Nat} (hB : E.Ahead B) (hd : db < B) (hb : Below B w w') : DB E db b w' := by
  obtain ⟨K, D, f, lim, h1, h2⟩ := h.s
  exact ⟨⟨K, D, f, lim, h1.over hB hb, h2⟩, (hb.cell (p := ⟨db, 0, none⟩) hd).trans h.d0, (hb.cell (p := ⟨db, 1, none⟩) hd).trans h.d1, h.dm⟩
theorem DB.ahead (h : DB E db b w) : E.Ahead w.heap.size := by
  obtain ⟨K, D, f, lim, h1, h2⟩ := h.s
  exact h1.lts
theorem DB.ground (h : DB E db b w) : Ground w := by
  obtain ⟨K, D, f, lim, h1, h2⟩ := h.s
  exact h1.ground
theorem DB.len (h : DB E db b w) (e : EOk E) : b.length ≤ 4000 := by
  obtain ⟨K, D, f, lim, h1, -, rfl, -⟩ := h.s
  exact h1.len (Nat.le_refl _) (by have := e.tn; omega)
theorem DB.read (h : DB E db b w) (e : EOk E) :
    Calls Tryz.prog 18 #[ptr E.tb, .int .i64 1, .int .i64 0, .int .i64 4000] w fun e w' => ∃ v, e = .returned (.tuple #[v, .nilIface]) ∧ OwnV w.heap.size w' v b ∧ Below w.heap.size w w' := by
  have hl := h.len e
  obtain ⟨K, D, f, lim, h1, hk, rfl, -⟩ := h.s
  have := S8.read e.ok h1 (id := 1) (Nat.le_refl _) (by have := e.tn; omega) (by omega) 0 4000 (by omega) (by omega)
  rw [List.drop_zero, List.take_of_length_le hl] at this
  exact this
theorem blk_upD {a b : Int} (h0 : 0 ≤ a) (h : a ≤ b) (hb : b ≤ 4000) : blk a ≤ blk b := by unfold blk; split <;> split <;> (try split) <;> (try split) <;> (try split) <;> (try split) <;> omega
theorem putD_lenD (d zs : List Int) (at_ S2 : Nat) : (putD d zs at_ S2).length = S2 := by simp [putD]
theorem blk_most {n : Int} (h0 : 0 ≤ n) (h : n ≤ 4000) : blk n ≤ 40 := by unfold blk; split <;> (try split) <;> (try split) <;> omega
theorem DB.write (h : DB E db b w) (e : EOk E) {at_ S2 : Nat} {bv : Value} {zs : List Int} (hbv : BytesC E.mb w bv zs) (hz0 : 0 < zs.length) (hat : at_ + zs.length ≤ 4000) (hmx : max b.length (at_ + zs.length) = S2) :
    Calls Tryz.prog 102 #[ptr E.tb, .int .i64 1, .int .i64 at_, bv] w fun e w' => e = .returned .nilIface ∧ DB E db (putD b zs at_ S2) w' ∧ Apart [E.mb] w w' := by
  have hl := h.len e
  have hd0 := h.d0
  have hd1 := h.d1
  have hlt := h.lt
  have hdm := h.dm
  obtain ⟨K, D, f, lim, h1, hk, rfl, hf⟩ := h.s
  obtain ⟨n, hn⟩ : ∃ n : Nat, growb ((D 1).length : Int) (S2 : Int) = (n : Int) := ⟨(growb ((D 1).length : Int) (S2 : Int)).toNat, by have := growb_range ((D 1).length : Int) (S2 : Int); omega⟩
  have hS := blk_most (n := (S2 : Int)) (by omega) (by omega)
  have hg : growb ((D 1).length : Int) (S2 : Int) = blk (S2 : Int) - blk ((D 1).length : Int) ∨ growb ((D 1).length : Int) (S2 : Int) = 0 := by unfold growb; omega
  have hup := blk_range ((D 1).length : Int)
  have hup2 : blk ((D 1).length : Int) ≤ blk (S2 : Int) := blk_upD (by omega) (by omega) (by omega)
  have hg2 : growb ((D 1).length : Int) (S2 : Int) = blk (S2 : Int) - blk ((D 1).length : Int) := by unfold growb; omega
  refine (S8.write e.ok h1 (id := 1) (Nat.le_refl _) (by have := e.tn; omega) (by omega) hbv hz0 hat hmx hn (by omega)).mono ?_
  rintro e w' ⟨rfl, hS8, hA⟩
  refine ⟨rfl, ⟨⟨K, _, f - n, lim, hS8, hk, upd_same _ _ _, ?_⟩, (hA.cell (p := ⟨db, 0, none⟩) hlt (by simpa using hdm)).trans hd0, (hA.cell (p := ⟨db, 1, none⟩) hlt (by simpa using hdm)).trans hd1, hdm⟩, hA⟩
  rw [putD_lenD]
  omega
theorem DB.cut (h : DB E db b w) (e : EOk E) {S2 : Nat} (hS2 : S2 ≤ 4000) :
    Calls Tryz.prog 101 #[ptr E.tb, .int .i64 1, .int .i64 S2] w fun e w' => e = .returned .nilIface ∧ DB E db (cutL b S2) w' ∧ Apart [E.mb] w w' := by
  have hl := h.len e
  have hd0 := h.d0
  have hd1 := h.d1
  have hlt := h.lt
  have hdm := h.dm
  obtain ⟨K, D, f, lim, h1, hk, rfl, hf⟩ := h.s
  have hS := blk_most (n := (S2 : Int)) (by omega) (by omega)
  refine (S8.cut e.ok h1 (id := 1) (Nat.le_refl _) (by have := e.tn; omega) (by omega) hS2 (by omega)).mono ?_
  rintro e w' ⟨rfl, ⟨f', hf', hS8⟩, hA⟩
  refine ⟨rfl, ⟨⟨K, _, f', lim, hS8, hk, upd_same _ _ _, ?_⟩, (hA.cell (p := ⟨db, 0, none⟩) hlt (by simpa using hdm)).trans hd0, (hA.cell (p := ⟨db, 1, none⟩) hlt (by simpa using hdm)).trans hd1, hdm⟩, hA⟩
  rw [cutL_len]
  omega
/-- What records answers. -/
def RecsAns (b : List Int) (base : Nat) (e : Ending) (w : World) : Prop :=
  (∃ L v, parseB b = some L ∧ e = .returned (.tuple #[v, .nilIface]) ∧ RecOwn 104 base w v L) ∨ (parseB b = none ∧ e = .returned (.tuple #[.slice none 0 0, num 3]))
set_option maxHeartbeats 2000000 in
theorem records_calls (h : DB E db b w) (e : EOk E) :
    Calls Tryz.prog 50 #[ptr db] w fun e w' => RecsAns b w.heap.size e w' ∧ Below w.heap.size w w' := by
  have hl := h.len e
  have hBd := below_drew1 w
  have hd := h.more hBd
  have kR := hidden (hd.read e)
  have d0 := hd.d0
  have d1 := hd.d1
  have hlt := h.lt
  replace hBd := hidden hBd
  replace h := hidden h
  clear hd
  go_enter Tryz.func50, Tryz.ntmps50
  go_upto_region 1 with fail
  go_region_with (go_at_call 18; refine (kR.out).mono ?_; rintro ev w2 ⟨v, rfl, hV, hB2⟩)
  all_goals
    have hC := hV.toC (m := E.mb) (by have := h.out.ahead; unfold TE.Ahead at this; show E.mb < w.heap.size; omega)
    have hBy := hC.at
    obtain ⟨a, cap, rfl, hlc, -⟩ := hC
    have kP := hidden (dparse_calls hBy hlc (by omega))
    have hb2 := hidden (hBd.out.trans (hB2.mono hBd.out.size))
    clear hV hBy hB2 kR d0 d1
    go_wp2_with fail
    refine (kP.out).mono ?_
    rintro ev w3 ⟨hA, hB3⟩
    have hb3 := hidden (hb2.out.trans (hB3.mono hb2.out.size))
    clear hB3 kP
    rcases hA with ⟨L, v, hp, rfl, hO⟩ | ⟨hp, rfl⟩
    · obtain ⟨la, lc, rfl⟩ := hO.form
      have hE := hidden (And.intro hp (hO.mono hb2.out.size))
      clear hp hO
      go_wp2
      go_ret2
      exact ⟨Or.inl ⟨L, _, hE.out.1, rfl, hE.out.2⟩, hb3.out⟩
    · replace hp := hidden hp
      go_wp2
      go_ret2
      exact ⟨Or.inr ⟨hp.out, rfl⟩, hb3.out⟩
set_option maxHeartbeats 2000000 in
theorem lay_calls (h : DB E db b w) (e : EOk E) (i : Nat) (r : Rec) (hr : r.Good) {S2 : Nat} (hi : 32 * i + 32 ≤ 4000) (hS2 : max b.length (32 * i + 32) = S2) :
    Calls Tryz.prog 86 #[ptr db, .int .i64 i, recV r.s (r.id : Nat)] w fun e w' => e = .returned .nilIface ∧ DB E db (putD b (recB r) (32 * i) S2) w' ∧ Apart [E.mb] w w' := by
  obtain ⟨w1, hw1, hB1, hR1⟩ : ∃ w1, w.alloc (.cells #[.string (mkB r.s), .int .i64 (r.id : Nat)] 104) = w1 ∧ Below w.heap.size w w1 ∧ RrAt w1 w.heap.size (mkB r.s) (r.id : Nat) := ⟨_, rfl, (Below.refl _ _).alloc (Nat.le_refl _) _, ⟨by simp, by simp, by simp⟩⟩
  have hb1 := hB1.trans ((below_drew1 w1).mono hB1.size)
  have hd := h.more hb1
  have hRd := hR1.below (below_drew1 w1)
  have d0 := hd.d0
  have d1 := hd.d1
  have r0 := hRd.c0
  have r1 := hRd.c1
  have kW := hidden (dwritten_calls r.s r.id hr.len hr.hi w1.drew)
  have kT := hidden (fun (wx : World) (hx : Below w1.drew.heap.size w1.drew wx) (bk : Nat) (hO : OwnB w1.drew.heap.size wx bk 32 32 (recB r)) => show Calls Tryz.prog 102 #[ptr E.tb, .int .i64 1, .int .i64 ((i : Int) * 32), .slice (some ⟨bk, 0, none⟩) 32 32] wx fun e w' => e = .returned .nilIface ∧ DB E db (putD b (recB r) (32 * i) S2) w' ∧ Apart [E.mb] wx w' from by
    have := (hd.more hx).write e (at_ := 32 * i) (S2 := S2) (hO.toV.toC (by have := hd.ahead; unfold TE.Ahead at this; omega)) (by rw [recB_len hr.len]; omega) (by rw [recB_len hr.len]; omega) (by rw [recB_len hr.len]; exact hS2)
    rw [show ((32 * i : Nat) : Int) = (i : Int) * 32 by omega] at this
    exact this)
  have hlt := hd.lt
  have hb1' := hidden hb1
  have hwm := wrap_inD ((i : Int) * 32) (by omega) (by omega)
  clear h hd hRd hR1 hb1 hB1
  go_enter Tryz.func86, Tryz.ntmps86
  go_upto_region 1 with fail
  clear hw1
  go_region_with (first
    | (go_at_call 145; refine (kW.out).mono ?_; rintro ev w2 ⟨bk, rfl, hO, hB2⟩; have kT2 := hidden (kT.out _ hB2 bk hO); have d02 := (hB2.cell (p := ⟨db, 0, none⟩) hlt).trans d0; have d12 := (hB2.cell (p := ⟨db, 1, none⟩) hlt).trans d1; have hb2 := hidden (hb1'.out.trans (hB2.mono hb1'.out.size)); clear hO hB2)
    | (go_at_call 102; refine (kT2.out).mono ?_; rintro ev w3 ⟨rfl, hD3, hA3⟩))
  all_goals
    have hE := hidden (And.intro hD3 ((Apart.of_below (bs := [E.mb]) hb2.out).trans hA3))
    clear hD3 hA3
    go_wp2
    go_ret
    exact ⟨rfl, hE.out⟩
set_option maxHeartbeats 2000000 in
theorem dcut_calls (h : DB E db b w) (e : EOk E) (n : Nat) (hn : 32 * n ≤ 4000) :
    Calls Tryz.prog 87 #[ptr db, .int .i64 n] w fun e w' => e = .returned .nilIface ∧ DB E db (cutL b (32 * n)) w' ∧ Apart [E.mb] w w' := by
  have hBd := below_drew1 w
  have hd := h.more hBd
  have d0 := hd.d0
  have d1 := hd.d1
  have hlt := h.lt
  have kC := hd.cut e hn
  rw [show ((32 * n : Nat) : Int) = (n : Int) * 32 by omega] at kC
  replace kC := hidden kC
  have hwm := wrap_inD ((n : Int) * 32) (by omega) (by omega)
  replace hBd := hidden hBd
  clear h hd
  go_enter Tryz.func87, Tryz.ntmps87
  go_upto_region 1 with fail
  go_region_with (go_at_call 101; refine (kC.out).mono ?_; rintro ev w3 ⟨rfl, hD3, hA3⟩)
  all_goals
    have hE := hidden (And.intro hD3 ((Apart.of_below (bs := [E.mb]) hBd.out).trans hA3))
    clear hD3 hA3
    go_wp2
    go_ret
    exact ⟨rfl, hE.out⟩
end
end Go.Proofs.YtlphgkaojfpepaaGreatDoor
