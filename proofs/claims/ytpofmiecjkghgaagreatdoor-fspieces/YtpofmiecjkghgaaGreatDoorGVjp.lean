/- A directory between two calls: records, lay, cut. -/
import Derived.Test.YtpofmiecjkghgaaGreatDoorGVhp
import Derived.Test.YtpofmiecjkghgaaGreatDoorGDcp
import Derived.Test.YtpofmiecjkghgaaGreatDoorGVgp
import Derived.Test.YtpofmiecjkghgaaGreatDoorGVfp
namespace Go.Proofs.YtpofmiecjkghgaaGreatDoor
open Go.RowKit Go.Extern.Stop Go.Stop Go.Extern Go.Maps Go.Sort Go.Shelf
set_option maxRecDepth 100000
set_option maxHeartbeats 4000000
theorem RecOwn.mono {T : TypeId} {base base' : Nat} {w : World} {v : Value} {L : List Rec} (h : RecOwn T base w v L) (hb : base' <= base) : RecOwn T base' w v L := ⟨⟨h.row.1, by
  rcases h.row.2 with h2 | ⟨g', cap', cur, hv, h1, rest⟩
  · exact .inl h2
  · exact .inr ⟨g', cap', cur, hv, Nat.le_trans hb h1, rest⟩⟩⟩
structure DX where
  E : TE
  p : Nat
  K : Nat -> Nat
  D : Nat -> List Int
  F : Nat
  B0 : Nat
  g : Nat
  lim : Nat
structure DB (X : DX) (db : Nat) (b : List Int) (w : World) : Prop where
  s : ∃ f u, S8 X.E X.K (upd X.D X.p b) f u X.lim w /\ (f : Int) + blk (b.length : Int) = (X.F : Int) /\ ((X.B0 : Int) <= blk (b.length : Int) -> (X.B0 : Int) + (X.g : Int) <= (u : Int) + blk (b.length : Int))
  d0 : w.cell? ⟨db, 0, none⟩ = some (ptr X.E.tb)
  d1 : w.cell? ⟨db, 1, none⟩ = some (.int .i64 (X.p : Nat))
  dm : db ≠ X.E.mb
structure EOk (X : DX) : Prop where
  ok : X.E.Ok
  p1 : 1 <= X.p
  p2 : X.p <= X.E.tn
  kd : X.K X.p = 2
structure DX.May (X : DX) : Prop where
  r : X.E.R X.p
  w : X.E.W X.p
def DX.Fit (X : DX) (b : List Int) (S2 : Nat) : Prop := blk (S2 : Int) = blk (b.length : Int) \/ ((X.B0 : Int) <= blk (b.length : Int) /\ blk (S2 : Int) <= (X.B0 : Int) + (X.g : Int))
section
variable {X : DX} {db : Nat} {b : List Int} {w w' : World}
theorem DB.lt (h : DB X db b w) : db < w.heap.size := lt_of_cell (a := ⟨db, 0, none⟩) h.d0
theorem DB.more (h : DB X db b w) (hb : Below w.heap.size w w') : DB X db b w' := by
  obtain ⟨f, u, h1, h2⟩ := h.s
  exact ⟨⟨f, u, h1.more hb, h2⟩, (hb.cell (p := ⟨db, 0, none⟩) h.lt).trans h.d0, (hb.cell (p := ⟨db, 1, none⟩) h.lt).trans h.d1, h.dm⟩
theorem DB.over (h : DB X db b w) {B : Nat} (hB : X.E.Ahead B) (hd : db < B) (hb : Below B w w') : DB X db b w' := by
  obtain ⟨f, u, h1, h2⟩ := h.s
  exact ⟨⟨f, u, h1.over hB hb, h2⟩, (hb.cell (p := ⟨db, 0, none⟩) hd).trans h.d0, (hb.cell (p := ⟨db, 1, none⟩) hd).trans h.d1, h.dm⟩
theorem DB.ahead (h : DB X db b w) : X.E.Ahead w.heap.size := by
  obtain ⟨f, u, h1, h2⟩ := h.s
  exact h1.lts
theorem DB.ground (h : DB X db b w) : Ground w := by
  obtain ⟨f, u, h1, h2⟩ := h.s
  exact h1.ground
theorem DB.len (h : DB X db b w) (e : EOk X) : b.length <= 4000 := by
  obtain ⟨f, u, h1, -⟩ := h.s
  have := h1.len e.p1 e.p2
  rw [upd_same] at this
  exact this
theorem DB.read (h : DB X db b w) (e : EOk X) :
    Calls Tryz.prog 78 #[ptr X.E.tb, .int .i64 (X.p : Nat), .int .i64 0, .int .i64 4000] w fun e w' => ∃ v, e = .returned (.tuple #[v, .nilIface]) /\ OwnV w.heap.size w' v b /\ Below w.heap.size w w' := by
  have hl := h.len e
  obtain ⟨f, u, h1, -⟩ := h.s
  have := S8.read e.ok h1 (id := X.p) e.p1 e.p2 (by rw [e.kd]; decide) 0 4000 (by omega) (by omega)
  rw [upd_same, List.drop_zero, List.take_of_length_le hl] at this
  exact this
theorem blk_upD {a b : Int} (h0 : 0 <= a) (h : a <= b) (hb : b <= 4000) : blk a <= blk b := by unfold blk; split <;> split <;> (try split) <;> (try split) <;> (try split) <;> (try split) <;> omega
theorem putD_lenD (d zs : List Int) (at_ S2 : Nat) : (putD d zs at_ S2).length = S2 := by simp [putD]
theorem upd_upd {α : Type} (f : Nat -> α) (i : Nat) (x y : α) : upd (upd f i x) i y = upd f i y := by
  funext j
  unfold upd
  split <;> rfl
theorem DB.write (h : DB X db b w) (e : EOk X) (m : X.May) {at_ S2 : Nat} {bv : Value} {zs : List Int} (hbv : BytesC X.E.mb w bv zs) (hz0 : 0 < zs.length) (hat : at_ + zs.length <= 4000) (hmx : max b.length (at_ + zs.length) = S2) (hfit : X.Fit b S2) :
    Calls Tryz.prog 66 #[ptr X.E.tb, .int .i64 (X.p : Nat), .int .i64 at_, bv] w fun e w' => e = .returned .nilIface /\ DB X db (putD b zs at_ S2) w' /\ Apart [X.E.mb] w w' := by
  have hl := h.len e
  have hd0 := h.d0
  have hd1 := h.d1
  have hlt := h.lt
  have hdm := h.dm
  obtain ⟨f, u, h1, hf, hu⟩ := h.s
  obtain ⟨n, hn⟩ : ∃ n : Nat, growb (b.length : Int) (S2 : Int) = (n : Int) := ⟨(growb (b.length : Int) (S2 : Int)).toNat, by have := growb_range (b.length : Int) (S2 : Int); omega⟩
  have hup := blk_range (b.length : Int)
  have hup2 : blk (b.length : Int) <= blk (S2 : Int) := blk_upD (by omega) (by omega) (by omega)
  have hg2 : growb (b.length : Int) (S2 : Int) = blk (S2 : Int) - blk (b.length : Int) := by unfold growb; omega
  have hnu : n <= u := by
    rcases hfit with hx | ⟨hx, hy⟩
    · omega
    · have := hu hx; omega
  have hnf : n <= f := by
    obtain ⟨mem, wr, M, N, q1, q2, q3, q4, q5, q6, q7, q8⟩ := h1
    have := freeN_mono (bitM mem M X.E.ma) e.ok.kuk
    omega
  refine (S8.write e.ok h1 (id := X.p) (S2 := S2) (n := n) e.p1 e.p2 m.r m.w (by rw [e.kd]; decide) hbv hz0 hat (by rw [upd_same]; exact hmx) (by rw [upd_same]; exact hn) hnu).mono ?_
  rintro e w' ⟨rfl, hS8, hA⟩
  rw [upd_same, upd_upd] at hS8
  refine ⟨rfl, ⟨⟨f - n, u - n, hS8, ?_, fun hb => ?_⟩, (hA.cell (p := ⟨db, 0, none⟩) hlt (by simpa using hdm)).trans hd0, (hA.cell (p := ⟨db, 1, none⟩) hlt (by simpa using hdm)).trans hd1, hdm⟩, hA⟩
  · rw [putD_lenD]
    omega
  · rw [putD_lenD] at hb ⊢
    rcases hfit with hx | ⟨hx, hy⟩
    · have := hu (by omega); omega
    · have := hu hx; omega
theorem DB.cut (h : DB X db b w) (e : EOk X) (m : X.May) {S2 : Nat} (hS2 : S2 <= b.length) (hB0 : blk (b.length : Int) <= (X.B0 : Int)) :
    Calls Tryz.prog 65 #[ptr X.E.tb, .int .i64 (X.p : Nat), .int .i64 S2] w fun e w' => e = .returned .nilIface /\ DB X db (cutL b S2) w' /\ Apart [X.E.mb] w w' := by
  have hl := h.len e
  have hd0 := h.d0
  have hd1 := h.d1
  have hlt := h.lt
  have hdm := h.dm
  obtain ⟨f, u, h1, hf, hu⟩ := h.s
  have hge : blk (S2 : Int) <= blk (b.length : Int) := blk_upD (by omega) (by omega) (by omega)
  have hgo : ∀ (f' u' : Nat) (w' : World), S8 X.E X.K (upd X.D X.p (cutL b S2)) f' u' X.lim w' -> Apart [X.E.mb] w w' -> (f' : Int) + blk (S2 : Int) = (f : Int) + blk (b.length : Int) -> u <= u' -> DB X db (cutL b S2) w' := fun f' u' w' q1 hA q2 q3 => by
    refine ⟨⟨f', u', q1, by rw [cutL_len]; omega, fun hb => ?_⟩, (hA.cell (p := ⟨db, 0, none⟩) hlt (by simpa using hdm)).trans hd0, (hA.cell (p := ⟨db, 1, none⟩) hlt (by simpa using hdm)).trans hd1, hdm⟩
    rw [cutL_len] at hb ⊢
    have := hu (by omega)
    omega
  by_cases hS : S2 < b.length
  · obtain ⟨n, hn⟩ : ∃ n : Nat, blk (b.length : Int) - blk (S2 : Int) = (n : Int) := ⟨(blk (b.length : Int) - blk (S2 : Int)).toNat, by omega⟩
    refine (S8.cutless e.ok h1 (id := X.p) e.p1 e.p2 m.r m.w (by rw [e.kd]; decide) (by rw [upd_same]; exact hS) (by rw [upd_same]; exact hn)).mono ?_
    rintro e w' ⟨rfl, r1, r2⟩
    rw [upd_same, upd_upd, <- cutL_less _ _ (by omega)] at r1
    exact ⟨rfl, hgo _ _ w' r1 r2 (by omega) (Nat.le_refl _), r2⟩
  · obtain rfl : S2 = b.length := by omega
    refine (S8.cutmore e.ok h1 (id := X.p) e.p1 e.p2 m.r m.w (by rw [e.kd]; decide) (n := 0) (by rw [upd_same]; exact Nat.le_refl _) hl (by rw [upd_same]; unfold growb; omega) (Nat.zero_le _)).mono ?_
    rintro e w' ⟨rfl, r1, r2⟩
    rw [upd_same, upd_upd, <- cutL_more _ _ (Nat.le_refl _)] at r1
    exact ⟨rfl, hgo _ _ w' r1 r2 (by omega) (by omega), r2⟩
def RecsAns (b : List Int) (base : Nat) (e : Ending) (w : World) : Prop :=
  (∃ L v, parseB b = some L /\ e = .returned (.tuple #[v, .nilIface]) /\ RecOwn 209 base w v L) \/ (parseB b = none /\ e = .returned (.tuple #[.slice none 0 0, num 3]))
theorem records_calls (h : DB X db b w) (e : EOk X) :
    Calls Tryz.prog 158 #[ptr db] w fun e w' => RecsAns b w.heap.size e w' /\ Below w.heap.size w w' := by
  have hl := h.len e
  have hBd := below_drew1 w
  have hd := h.more hBd
  have kR := hidden (hd.read e)
  have d0 := hd.d0
  have d1 := hd.d1
  have hlt := h.lt
  replace hBd := hidden hBd
  replace h := hidden h
  clear hd
  go_enter Tryz.func158, Tryz.ntmps158
  go_upto_region 1 with fail
  go_region_with (go_at_call 78; refine (kR.out).mono ?_; rintro ev w2 ⟨v, rfl, hV, hB2⟩)
  all_goals
    have hC := hV.toC (m := X.E.mb) (by have := h.out.ahead; unfold TE.Ahead at this; show X.E.mb < w.heap.size; omega)
    have hBy := hC.at
    obtain ⟨a, cap, rfl, hlc, -⟩ := hC
    have kP := hidden (dparse_calls hBy hlc (by omega))
    have hb2 := hidden (hBd.out.trans (hB2.mono hBd.out.size))
    clear hV hBy hB2 kR d0 d1
    go_wp2_with fail
    refine (kP.out).mono ?_
    rintro ev w3 ⟨hA, hB3⟩
    have hb3 := hidden (hb2.out.trans (hB3.mono hb2.out.size))
    clear hB3 kP
    rcases hA with ⟨L, v, hp, rfl, hO⟩ | ⟨hp, rfl⟩
    · obtain ⟨la, lc, rfl⟩ := hO.form
      have hE := hidden (And.intro hp (hO.mono hb2.out.size))
      clear hp hO
      go_wp2
      go_ret2
      exact ⟨Or.inl ⟨L, _, hE.out.1, rfl, hE.out.2⟩, hb3.out⟩
    · replace hp := hidden hp
      go_wp2
      go_ret2
      exact ⟨Or.inr ⟨hp.out, rfl⟩, hb3.out⟩
theorem lay_calls (h : DB X db b w) (e : EOk X) (m : X.May) (i : Nat) (r : Rec) (hr : r.Good) {S2 : Nat} (hi : 32 * i + 32 <= 4000) (hS2 : max b.length (32 * i + 32) = S2) (hfit : X.Fit b S2) :
    Calls Tryz.prog 218 #[ptr db, .int .i64 i, recV r.s (r.id : Nat)] w fun e w' => e = .returned .nilIface /\ DB X db (putD b (recB r) (32 * i) S2) w' /\ Apart [X.E.mb] w w' := by
  obtain ⟨w1, hw1, hB1, hR1⟩ : ∃ w1, w.alloc (.cells #[.string (mkB r.s), .int .i64 (r.id : Nat)] 209) = w1 /\ Below w.heap.size w w1 /\ RrAt w1 w.heap.size (mkB r.s) (r.id : Nat) := ⟨_, rfl, (Below.refl _ _).alloc (Nat.le_refl _) _, ⟨by simp, by simp, by simp⟩⟩
  have hb1 := hB1.trans ((below_drew1 w1).mono hB1.size)
  have hd := h.more hb1
  have hRd := hR1.below (below_drew1 w1)
  have d0 := hd.d0
  have d1 := hd.d1
  have r0 := hRd.c0
  have r1 := hRd.c1
  have kW := hidden (dwritten_calls r.s r.id hr.len hr.hi w1.drew)
  have kT := hidden (fun (wx : World) (hx : Below w1.drew.heap.size w1.drew wx) (bk : Nat) (hO : OwnB w1.drew.heap.size wx bk 32 32 (recB r)) => show Calls Tryz.prog 66 #[ptr X.E.tb, .int .i64 (X.p : Nat), .int .i64 ((i : Int) * 32), .slice (some ⟨bk, 0, none⟩) 32 32] wx fun e w' => e = .returned .nilIface /\ DB X db (putD b (recB r) (32 * i) S2) w' /\ Apart [X.E.mb] wx w' from by
    have := (hd.more hx).write e m (at_ := 32 * i) (S2 := S2) (hO.toV.toC (by have := hd.ahead; unfold TE.Ahead at this; omega)) (by rw [recB_len hr.len]; omega) (by rw [recB_len hr.len]; omega) (by rw [recB_len hr.len]; exact hS2) hfit
    rw [show ((32 * i : Nat) : Int) = (i : Int) * 32 by omega] at this
    exact this)
  have hlt := hd.lt
  have hb1' := hidden hb1
  have hwm := wrap_inD ((i : Int) * 32) (by omega) (by omega)
  clear h hd hRd hR1 hb1 hB1
  go_enter Tryz.func218, Tryz.ntmps218
  go_upto_region 1 with fail
  clear hw1
  go_region_with (first
    | (go_at_call 265; refine (kW.out).mono ?_; rintro ev w2 ⟨bk, rfl, hO, hB2⟩; have kT2 := hidden (kT.out _ hB2 bk hO); have d02 := (hB2.cell (p := ⟨db, 0, none⟩) hlt).trans d0; have d12 := (hB2.cell (p := ⟨db, 1, none⟩) hlt).trans d1; have hb2 := hidden (hb1'.out.trans (hB2.mono hb1'.out.size)); clear hO hB2)
    | (go_at_call 66; refine (kT2.out).mono ?_; rintro ev w3 ⟨rfl, hD3, hA3⟩))
  all_goals
    have hE := hidden (And.intro hD3 ((Apart.of_below (bs := [X.E.mb]) hb2.out).trans hA3))
    clear hD3 hA3
    go_wp2
    go_ret
    exact ⟨rfl, hE.out⟩
end
end Go.Proofs.YtpofmiecjkghgaaGreatDoor
