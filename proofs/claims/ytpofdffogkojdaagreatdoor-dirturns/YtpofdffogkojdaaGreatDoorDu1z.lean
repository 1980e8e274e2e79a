/- DirTurns. -/
import Derived.Test.YtpofdffogkojdaaGreatDoorDn0z
import Derived.Test.YtpofdffogkojdaaGreatDoorDb0z
namespace Go.Proofs.YtpofdffogkojdaaGreatDoor
open Go.RowKit Go.Extern.Stop Go.Stop Go.Extern Go.Maps Go.Sort Go.Shelf
set_option maxRecDepth 100000

theorem Tryz.infoRec10 : (Tryz.prog.info? 58).map (fun i => (i.zero, i.size, i.bytes)) = some (some (.agg #[.string ⟨#[]⟩, .int .i64 0]), 2, 24) := by kernel_rfl
theorem DL.overT {E : TE} {db : Nat} {L : List Rec} {w w' : World} (h : DL E db L w) {B : Nat} (hB : E.Ahead B) (hd : db < B) (hb : Below B w w') : DL E db L w' := ⟨h.b.over hB hd hb, h.g⟩
/-- An error that was told stays as it is behind a call that turns the map alone. -/
theorem DB.keepChain {E : TE} {db : Nat} {bts : List Int} {w w' : World} {op nm : ByteArray} {bot e : Value} (h : DB E db bts w) (hc : Chain w [(op, nm)] bot e) (ha : Apart [E.mb] w w') : Chain w' [(op, nm)] bot e := by
  obtain ⟨b', e', he, hb, ⟨cs, t, hs⟩, h0, h1, h2, h3⟩ := hc
  have hbm : b' ≠ E.mb := by
    obtain ⟨K, D, f, lim, ⟨mem, wr, M, N, q1, -⟩, -⟩ := h.s
    obtain ⟨es, clock, hm, -⟩ := q1.c.map.own
    rintro rfl
    rw [hm] at hs
    cases hs
  exact ⟨b', e', he, Nat.lt_of_lt_of_le hb ha.size, ⟨cs, t, (ha.block b' hb (by simpa using hbm)).trans hs⟩, (ha.cell (p := ⟨b', 0, none⟩) hb (by simpa using hbm)).trans h0, (ha.cell (p := ⟨b', 1, none⟩) hb (by simpa using hbm)).trans h1, (ha.cell (p := ⟨b', 2, none⟩) hb (by simpa using hbm)).trans h2, h3⟩
/-- Records with another name in the place of one. -/
theorem RecsAt.rename {w : World} {lb off LL lc : Nat} {L : List Rec} {k : Nat} {r : Rec} (h : RecsAt w (.slice (some ⟨lb, off, none⟩) LL lc) L) (hr : L[k]? = some r) (t : List UInt8) : RecsAt (w.setCell ⟨lb, off + k * 2, none⟩ (.string (mkB t))) (.slice (some ⟨lb, off, none⟩) LL lc) (L.set k ⟨t, r.id⟩) := by
  obtain ⟨a, cap, hv, hc⟩ := h
  obtain ⟨rfl, rfl, rfl⟩ := Value.slice.inj hv
  have hk := (List.getElem?_eq_some_iff.1 hr).1
  obtain ⟨b', off', ha, hlt, hcell⟩ := hc (by rintro rfl; simp at hk)
  simp only [Option.some.injEq, Addr.mk.injEq] at ha
  obtain ⟨rfl, rfl, -⟩ := ha
  refine ⟨_, _, by rw [List.length_set], fun _ => ⟨lb, off, rfl, by simpa using hlt, fun j q hq => ?_⟩⟩
  by_cases e : j = k
  · subst e
    rw [List.getElem?_set_self hk] at hq
    cases hq
    obtain ⟨c0, c1⟩ := hcell j r hr
    exact ⟨World.cell?_setCell_same' _ _ _ (by rw [c0]; rfl), (World.cell?_setCell_other _ _ _ _ (by intro x; have := congrArg Addr.off x; simp at this)).trans c1⟩
  · rw [List.getElem?_set_ne (fun x => e x.symm)] at hq
    obtain ⟨c0, c1⟩ := hcell j q hq
    exact ⟨(World.cell?_setCell_other _ _ _ _ (by intro x; have := congrArg Addr.off x; simp at this; omega)).trans c0, (World.cell?_setCell_other _ _ _ _ (by intro x; have := congrArg Addr.off x; simp at this; omega)).trans c1⟩
theorem RecsAt.keep {w w' : World} {lb off LL lc : Nat} {L : List Rec} {bs : List Nat} (h : RecsAt w (.slice (some ⟨lb, off, none⟩) LL lc) L) (ha : Apart bs w w') (hn : lb ∉ bs) : RecsAt w' (.slice (some ⟨lb, off, none⟩) LL lc) L := by
  obtain ⟨a, cap, hv, hc⟩ := h
  refine ⟨a, cap, hv, fun hne => ?_⟩
  obtain ⟨b, o, hab, hlt, hk⟩ := hc hne
  have e := (Value.slice.inj hv).1
  rw [hab] at e
  simp only [Option.some.injEq, Addr.mk.injEq] at e
  obtain ⟨rfl, rfl, -⟩ := e
  refine ⟨lb, off, hab, Nat.lt_of_lt_of_le hlt ha.size, fun k r hr => ?_⟩
  obtain ⟨h1, h2⟩ := hk k r hr
  exact ⟨(ha.cell (p := ⟨lb, off + k * 2, none⟩) hlt hn).trans h1, (ha.cell (p := ⟨lb, off + k * 2 + 1, none⟩) hlt hn).trans h2⟩
abbrev sOther : List UInt8 := [111, 116, 104, 101, 114]
theorem turn_no {i k : Nat} (hi : i ≤ 100) (hk : k < i) : ∀ q ∈ (rowP 110 i).set k ⟨sOther, k + 1⟩, q.s ≠ nmP 110 k := by
  intro q hq e
  obtain ⟨j, hj⟩ := List.getElem?_of_mem hq
  by_cases ej : j = k
  · subst ej
    rw [List.getElem?_set_self (by rw [rowP_len]; exact hk)] at hj
    cases hj
    have h2 : (some 111 : Option UInt8) = some 110 := congrArg List.head? e
    exact absurd h2 (by decide)
  · rw [List.getElem?_set_ne (fun x => ej x.symm)] at hj
    have hji : j < i := by have := (List.getElem?_eq_some_iff.1 hj).1; rw [rowP_len] at this; exact this
    rw [rowP_get 110 hji] at hj
    cases hj
    exact ej (nm_inj (by omega) (by omega) e)
/-- One cell is as it is. -/
def SCell (a : Addr) (v : Value) (wx : World) : Prop := wx.cell? a = some v
theorem SCell.out {a : Addr} {v : Value} {wx : World} (h : SCell a v wx) : wx.cell? a = some v := h
set_option maxHeartbeats 8000000 in
theorem dirTurns_calls (zn za : Int) (w : World) (hG : Ground w) (hGT : GT w) :
    Calls Tryz.prog 4 #[.int .i64 zn, .int .i64 za] w fun e w' => e = .returned (.bool true) ∧ Below w.heap.size w w' := by
  have kM := hidden (made10_calls w hG)
  have kA := hidden (fun (wx : World) (hx : Below w.heap.size w wx) => awake10_calls wx (hG.below hx))
  have kGT := hidden (fun (wx : World) (hx : Below w.heap.size w wx) => hGT.below hx)
  clear hG hGT
  obtain ⟨m, hm, hm2⟩ : ∃ m : Nat, bits .and .i64 zn 255 = (m : Int) ∧ m ≤ 255 := by
    have : 0 ≤ bits .and .i64 zn 255 ∧ bits .and .i64 zn 255 ≤ 255 := and_low zn 255 (by omega)
    exact ⟨(bits .and .i64 zn 255).toNat, by have := this.1; omega, by omega⟩
  obtain ⟨a, ha, ha2⟩ : ∃ a : Nat, bits .and .i64 za 255 = (a : Int) ∧ a ≤ 255 := by
    have : 0 ≤ bits .and .i64 za 255 ∧ bits .and .i64 za 255 ≤ 255 := and_low za 255 (by omega)
    exact ⟨(bits .and .i64 za 255).toNat, by have := this.1; omega, by omega⟩
  obtain ⟨n, hn, hn1, hn2⟩ : ∃ n : Nat, (m : Int) % 30 + 1 = (n : Int) ∧ 1 ≤ n ∧ n ≤ 30 := ⟨m % 30 + 1, by omega, by omega, by omega⟩
  go_enter Tryz.func4, Tryz.ntmps4
  go_wp2_with fail
  refine (kM.out).mono ?_
  rintro ev w1 ⟨jb, cb, mb, ab, tb, db, rfl, ok, -, h1, hdb, hB1⟩
  have hw0 : (te10 w jb cb mb ab tb).w0 = w := rfl
  have htb : (te10 w jb cb mb ab tb).tb = tb := rfl
  generalize te10 w jb cb mb ab tb = E at ok h1 hw0 htb
  replace hw0 := hidden hw0
  replace htb := hidden htb
  replace ok := hidden ok
  have hah := hidden (And.intro h1.b.ahead h1.b.lt)
  generalize hBs : w1.heap.size = BS at hah
  replace h1 := hidden h1
  replace hBs := hidden hBs
  clear kM hdb hB1
  go_wp2_with fail
  go_loopg [7, 8] 31 (fun gk l q wr => ∃ i : Nat, i ≤ n ∧ gk = 31 - i ∧ q = .int .i64 i ∧ Hid (DL E db (rowP 110 i) wr ∧ RecOwn 58 BS wr l (rowP 110 i) ∧ BS ≤ wr.heap.size))
  case atStart => exact ⟨0, by omega, rfl, rfl, hidden ⟨h1.out, RecOwn.nil _ _ _, by rw [hBs.out]; exact Nat.le_refl _⟩⟩
  case round =>
    obtain ⟨i, hi, hgk, rfl, hI⟩ := hrel
    replace hgk := hidden hgk
    clear h1 hBs
    obtain ⟨la, lc, rfl⟩ := hI.out.2.1.form
    rw [rowP_len] at *
    by_cases hlt : i < n
    · have hlt' : (i : Int) < (n : Int) := by omega
      have kN := hidden (fun (wx : World) => num_calls (i : Int) ⟨by omega, by omega⟩ wx)
      have hcat := nm_join 110 i
      have hsz := nm_size (i := i) (by omega)
      have hok := hidden (ok_fin ⟨i, by omega⟩).2
      generalize itoaB (i : Int) = TX at kN hcat hsz
      obtain ⟨w2, hw2, hB2, hR2⟩ : ∃ w2, wr.alloc (.cells #[.string (mkB (nmP 110 i)), .int .i64 ((i : Int) + 1)] 58) = w2 ∧ Below wr.heap.size wr w2 ∧ RrAt w2 wr.heap.size (mkB (nmP 110 i)) ((i : Int) + 1) := ⟨_, rfl, (Below.refl _ _).alloc (Nat.le_refl _) _, ⟨by simp, by simp, by simp⟩⟩
      obtain ⟨v3, w3, hrun, hO3, hB3⟩ := (hI.out.2.1.below hB2).push Tryz.underlying56 Tryz.infoRec10 ⟨nmP 110 i, i + 1⟩ ⟨wr.heap.size, 0, none⟩ 1 hR2.c0 (by show w2.cell? ⟨wr.heap.size, 1, none⟩ = some (.int .i64 ((i + 1 : Nat) : Int)); rw [hR2.c1]; simp) (by rw [rowP_len]; omega) (Nat.le_trans hI.out.2.2 hB2.size) 56
      rw [← rowP_succ] at hO3
      have hD3 := (hI.out.1.more hB2).overT hah.out.1 hah.out.2 hB3
      obtain ⟨a3, c3, hv3⟩ := hO3.form
      rw [rowP_len] at hv3
      subst hv3
      have kP := hidden (show Calls Tryz.prog 25 #[ptr db, .string (mkB (nmP 110 i)), .int .i64 ((i : Int) + 1)] w3 _ from by
        have := dPut_ok hD3 ok.out (nmP 110 i) (i + 1) hok.out (by omega) (by omega) (rowP_no (Nat.le_refl _) (by omega)) (by rw [rowP_len]; omega)
        rw [← rowP_succ, show ((i + 1 : Nat) : Int) = (i : Int) + 1 by omega] at this
        exact this)
      obtain ⟨ax, cx, hvx, hcs⟩ := hO3.at
      rw [rowP_len] at hvx
      obtain ⟨rfl, -, rfl⟩ := Value.slice.inj hvx
      obtain ⟨lb, off, rfl, hlb, hcell⟩ := hcs (by intro e; have := congrArg List.length e; rw [rowP_len] at this; simp at this)
      have c3n := (hcell i _ (rowP_get 110 (Nat.lt_succ_self i))).1
      have hO3' := hidden hO3
      have hsz3 := hidden (Nat.le_trans (Nat.le_trans hI.out.2.2 hB2.size) hB3.size)
      have hii : (i : Int) < ((i + 1 : Nat) : Int) := by omega
      replace hrun := hidden hrun
      replace hm := hidden hm
      replace hn := hidden hn
      replace ha := hidden ha
      generalize nmP 110 i = NM at *
      clear hO3 hB3 hB2 hR2 hD3 hvx hcs hcell hI
      go_wp2_with fail
      refine (kN.out _).mono ?_
      rintro ev wz ⟨rfl, hwz⟩
      subst wz
      go_wp2_with (at_builtin; refine wpList_append_eq _ _ 56 rfl _ _ _ w3 rfl rfl hrun.out rfl ?_)
      go_wp2_with fail
      refine (kP.out).mono ?_
      rintro ev w4 ⟨rfl, h4, hA4⟩
      have hE := hidden (And.intro h4 (And.intro (hO3'.out.keep hA4 (by intro k hk; rw [List.mem_singleton.1 hk]; have := hah.out.1; unfold TE.Ahead at this; omega)) (Nat.le_trans hsz3.out hA4.size)))
      clear kP h4 hA4
      go_wp2
      go_roundg (31 - (i + 1))
      case measure => rw [hgk.out]; omega
      case rel => exact ⟨i + 1, hlt, rfl, by go_num, hidden hE.out⟩
    · obtain rfl : i = n := by omega
      have hii : ¬ (i : Int) < (i : Int) := by omega
      obtain ⟨k, hk, hki⟩ : ∃ k : Nat, (a : Int) % (i : Int) = (k : Int) ∧ k < i := ⟨a % i, by norm_cast, Nat.mod_lt _ (by omega)⟩
      have hrow := hidden (rowP_get 110 hki)
      obtain ⟨ax, cx, hvx, hcs⟩ := hI.out.2.1.at
      rw [rowP_len] at hvx
      obtain ⟨rfl, -, rfl⟩ := Value.slice.inj hvx
      obtain ⟨lb, off, rfl, hlb, hcell⟩ := hcs (by intro e; have := congrArg List.length e; rw [rowP_len] at this; simp at this; omega)
      have hlbB : BS ≤ lb ∧ (∀ j, wr.frozen? ⟨lb, j, none⟩ = false) ∧ off = 0 := by
        rcases hI.out.2.1.row.2 with ⟨hv0, -⟩ | ⟨g', cap', cur, hv0, hb0, hh, -⟩
        · cases hv0
        · simp only [Value.slice.injEq, Option.some.injEq, Addr.mk.injEq] at hv0
          obtain ⟨⟨rfl, rfl, -⟩, -, -⟩ := hv0
          exact ⟨hb0, fun j => by simp [World.frozen?, hh], rfl⟩
      have hki' : (k : Int) < (i : Int) := by omega
      have hok := hidden (ok_fin ⟨k, by omega⟩).2
      have hmb : lb ≠ E.mb := by have := hah.out.1; unfold TE.Ahead at this; omega
      have hDd := hI.out.1.more (below_drew1 wr)
      have hno : ∀ q ∈ rowP 110 i, q.s ≠ sOther := fun q hq e => by
        have h2 := rowP_head q hq
        rw [e] at h2
        have h3 : (some 111 : Option UInt8) = some 110 := h2
        exact absurd h3 (by decide)
      have hoth : okB sOther = true := by decide
      have kT1 := hidden (dTurn_same hDd ok.out hrow.out)
      have kT2 := hidden (fun (wx : World) (hx : Below wr.drew.heap.size wr.drew wx) => dTurn_to (hDd.more hx) ok.out hrow.out sOther hoth hno)
      dsimp only at kT1 kT2
      have hRA := hidden hI.out.2.1.at
      have c0 := ((below_drew1 wr).cell (p := ⟨lb, off + k * 2, none⟩) hlb).trans (hcell k _ hrow.out).1
      have hS0 : SCell ⟨lb, off + k * 2, none⟩ (.string (mkB (nmP 110 k))) wr.drew := c0
      have hlb' := hlb
      have hfz := hlbB.2.1
      obtain ⟨NM, hNM⟩ : ∃ NM, nmP 110 k = NM := ⟨_, rfl⟩
      have hL := hidden (turn_no (i := i) (k := k) (by omega) hki)
      rw [hNM] at hS0 kT1 kT2 hok hL
      replace hNM := hidden hNM
      have hBS := hidden (And.intro hlbB.1 hI.out.2.2)
      replace hm := hidden hm
      replace hn := hidden hn
      clear hcell hcs hvx hI hDd c0 hlbB
      go_upto_region 13 with fail
      refine wp_region_held_drew (S := SCell ⟨lb, off + k * 2, none⟩ (.string (mkB NM))) (by kernel_rfl) hS0 ?_
      intro _
      refine wpAnyH_take (i := 0) (v := ?_) rfl (by kernel_rfl) (by kernel_rfl) (by kernel_rfl) (fun _ _ _ h => h) (Or.inl ⟨by rfl, ?_⟩) hS0 ?_
      rotate_left
      · intro w hw; clear hw; go_simp; try (with_reducible rfl)
      refine wpAnyH_take (i := 1) (v := ?_) rfl (by kernel_rfl) (by kernel_rfl) (by kernel_rfl) (fun _ _ _ h => h) (Or.inl ⟨by rfl, ?_⟩) hS0 ?_
      rotate_left
      · intro w hw; clear hw; go_simp; try (with_reducible rfl)
      refine wpAnyH_take (i := 2) (v := ?_) rfl (by kernel_rfl) (by kernel_rfl) (by kernel_rfl) (fun _ _ _ h => h) (Or.inl ⟨by rfl, ?_⟩) hS0 ?_
      rotate_left
      · intro w hw; clear hw; go_simp; try (with_reducible rfl)
      refine wpAnyH_take (i := 3) (v := ?_) rfl (by kernel_rfl) (by kernel_rfl) (by kernel_rfl) (fun _ _ _ h => h) (Or.inl ⟨by rfl, ?_⟩) hS0 ?_
      rotate_left
      · intro w hw; clear hw; go_simp; try (with_reducible rfl)
      refine wpAnyH_take (i := 4) (v := ?_) rfl (by kernel_rfl) (by kernel_rfl) (by kernel_rfl) (fun _ _ _ h => h) (Or.inl ⟨by rfl, ?_⟩) hS0 ?_
      rotate_left
      · intro w hw; clear hw; go_simp; try (with_reducible rfl)
      refine wpAnyH_take (i := 5) (v := ?_) rfl (by kernel_rfl) (by kernel_rfl) (by kernel_rfl) (fun _ _ _ h => h) (Or.inl ⟨by rfl, ?_⟩) hS0 ?_
      rotate_left
      · intro w hw; have c5 := hw.out; clear hw; go_simp; try (with_reducible rfl)
      refine wpAnyH_take (i := 6) (v := ?_) rfl (by kernel_rfl) (by kernel_rfl) (by kernel_rfl) (fun _ _ _ h => h) (Or.inl ⟨by rfl, ?_⟩) hS0 ?_
      rotate_left
      · intro w hw; clear hw; go_simp; try (with_reducible rfl)
      refine wpAnyH_ready (rs := [7]) (by kernel_rfl) (by simp) ?_
      refine AllReadyH.cons rfl (fun K hK => ?_) AllReadyH.nil
      go_simp
      refine hK.out _ _ hS0 (fun _ => ?_)
      clear hK K
      refine wpAnyH_ready (rs := [8]) (by kernel_rfl) (by simp) ?_
      refine AllReadyH.cons rfl (fun K hK => ?_) AllReadyH.nil
      go_simp
      refine hK.out _ _ hS0 (fun _ => ?_)
      clear hK K
      refine wpAnyH_ready (rs := [9]) (by kernel_rfl) (by simp) ?_
      refine AllReadyH.cons rfl (fun K hK => ?_) AllReadyH.nil
      go_simp
      refine hK.out _ _ hS0 (fun _ => ?_)
      clear hK K
      refine wpAnyH_ready (rs := [10]) (by kernel_rfl) (by simp) ?_
      refine AllReadyH.cons rfl (fun K hK => ?_) AllReadyH.nil
      have c5 := hS0.out
      go_simp
      refine hK.out _ _ hS0 (fun _ => ?_)
      clear hK K
      refine wpAnyH_ready (rs := [11]) (by kernel_rfl) (by simp) ?_
      refine AllReadyH.cons rfl (fun K hK => ?_) AllReadyH.nil
      go_simp
      go_wp2_with (go_at_call 26; refine (kT1.out).mono ?_; rintro ev w2 ⟨rfl, hB2⟩)
      refine hK.out _ _ (show SCell _ _ w2 from (hB2.cell (p := ⟨lb, off + k * 2, none⟩) hlb').trans hS0.out) (fun hSn1 => ?_)
      have kT2' := hidden (kT2.out _ hB2)
      have hb2 := hidden hB2
      clear kT1 kT2 hB2
      clear hK K
      refine wpAnyH_ready (rs := [12]) (by kernel_rfl) (by simp) ?_
      refine AllReadyH.cons rfl (fun K hK => ?_) AllReadyH.nil
      go_simp
      refine hK.out _ _ hSn1 (fun _ => ?_)
      clear hK K
      refine wpAnyH_ready (rs := [13]) (by kernel_rfl) (by simp) ?_
      refine AllReadyH.cons rfl (fun K hK => ?_) AllReadyH.nil
      go_simp
      refine hK.out _ _ hSn1 (fun _ => ?_)
      clear hK K
      refine wpAnyH_take (i := 14) (v := ?_) rfl (by kernel_rfl) (by kernel_rfl) (by kernel_rfl) (fun _ _ _ h => h) (Or.inl ⟨by rfl, ?_⟩) hSn1 ?_
      rotate_left
      · intro w hw; clear hw; go_simp; try (with_reducible rfl)
      refine wpAnyH_take (i := 15) (v := ?_) rfl (by kernel_rfl) (by kernel_rfl) (by kernel_rfl) (fun _ _ _ h => h) (Or.inl ⟨by rfl, ?_⟩) hSn1 ?_
      rotate_left
      · intro w hw; clear hw; go_simp; try (with_reducible rfl)
      refine wpAnyH_ready (rs := [16]) (by kernel_rfl) (by simp) ?_
      refine AllReadyH.cons rfl (fun K hK => ?_) AllReadyH.nil
      go_simp
      refine hK.out _ _ hSn1 (fun _ => ?_)
      clear hK K
      refine wpAnyH_ready (rs := [17]) (by kernel_rfl) (by simp) ?_
      refine AllReadyH.cons rfl (fun K hK => ?_) AllReadyH.nil
      go_simp
      refine hK.out _ _ hSn1 (fun _ => ?_)
      clear hK K
      refine wpAnyH_ready (rs := [18]) (by kernel_rfl) (by simp) ?_
      refine AllReadyH.cons rfl (fun K hK => ?_) AllReadyH.nil
      go_simp
      refine hK.out _ _ hSn1 (fun _ => ?_)
      clear hK K
      refine wpAnyH_ready (rs := [19]) (by kernel_rfl) (by simp) ?_
      refine AllReadyH.cons rfl (fun K hK => ?_) AllReadyH.nil
      have c5 := hSn1.out
      go_simp
      refine hK.out _ _ hSn1 (fun _ => ?_)
      clear hK K
      refine wpAnyH_ready (rs := [20]) (by kernel_rfl) (by simp) ?_
      refine AllReadyH.cons rfl (fun K hK => ?_) AllReadyH.nil
      go_simp
      go_wp2_with (go_at_call 26; refine (kT2'.out).mono ?_; rintro ev w3 ⟨rfl, h3, hA3⟩)
      refine hK.out _ _ (show SCell _ _ w3 from (hA3.cell (p := ⟨lb, off + k * 2, none⟩) (lt_of_cell (a := ⟨lb, off + k * 2, none⟩) hSn1.out) (by simpa using hmb)).trans hSn1.out) (fun hSn2 => ?_)
      have h3' := hidden h3
      have hA3' := hidden hA3
      clear kT2' h3 hA3
      clear hK K
      refine wpAnyH_ready (rs := [21]) (by kernel_rfl) (by simp) ?_
      refine AllReadyH.cons rfl (fun K hK => ?_) AllReadyH.nil
      go_simp
      refine hK.out _ _ hSn2 (fun _ => ?_)
      clear hK K
      refine wpAnyH_ready (rs := [22]) (by kernel_rfl) (by simp) ?_
      refine AllReadyH.cons rfl (fun K hK => ?_) AllReadyH.nil
      go_simp
      refine hK.out _ _ hSn2 (fun _ => ?_)
      clear hK K
      refine wpAnyH_done (by kernel_rfl) ?_ _
      have hc3 := hSn2.out
      have hb3 := hb2.out
      have hRA3 : RecsAt w3 (.slice (some ⟨lb, off, none⟩) i lc) (rowP 110 i) := (((hRA.out.keep (Apart.of_below (bs := []) (below_drew1 wr)) (by simp)).keep (Apart.of_below (bs := []) hb3) (by simp))).keep hA3'.out (by simpa using hmb)
      have hfz3 : w3.frozen? ⟨lb, off + k * 2, none⟩ = false := by
        rw [hA3'.out.frozen (p := ⟨lb, off + k * 2, none⟩) (Nat.lt_of_lt_of_le hlb' hb3.size) (by simpa using hmb), hb3.frozen (p := ⟨lb, off + k * 2, none⟩) hlb']
        exact hfz _
      obtain ⟨w4, hw4, hRA4, hD4⟩ : ∃ w4, w3.setCell ⟨lb, off + k * 2, none⟩ (.string (mkB sOther)) = w4 ∧ RecsAt w4 (.slice (some ⟨lb, off, none⟩) i lc) ((rowP 110 i).set k ⟨sOther, k + 1⟩) ∧ DL E db ((rowP 110 i).set k ⟨sOther, k + 1⟩) w4 :=
        ⟨_, rfl, hRA3.rename hrow.out sOther, h3'.out.overT hah.out.1 hah.out.2 ((Below.refl BS w3).setCell (p := ⟨lb, off + k * 2, none⟩) hBS.out.1 _)⟩
      have hlit : mkB sOther = ⟨#[111, 116, 104, 101, 114]⟩ := rfl
      rw [hlit] at hw4
      clear hlit
      have hget : ((rowP 110 i).set k ⟨sOther, k + 1⟩)[k]? = some ⟨sOther, k + 1⟩ := List.getElem?_set_self (by rw [rowP_len]; exact hki)
      have hlen : ((rowP 110 i).set k ⟨sOther, k + 1⟩).length = i := by rw [List.length_set, rowP_len]
      have hgd : Hid (∀ r ∈ (rowP 110 i).set k ⟨sOther, k + 1⟩, r.s.length ≤ 27 ∧ r.id < 2147483648) := hidden (fun r hr => ⟨(hD4.g.each r hr).len, by
        rcases List.mem_or_eq_of_mem_set hr with hr | rfl
        · obtain ⟨j, hj, rfl⟩ := List.mem_map.1 hr
          have := List.mem_range.1 hj
          show j + 1 < _
          omega
        · show k + 1 < _
          omega⟩)
      generalize (rowP 110 i).set k ⟨sOther, k + 1⟩ = LT at *
      have kR := hD4.b.read ok.out
      rw [htb.out] at kR
      replace kR := hidden kR
      replace hRA4 := hidden hRA4
      replace hD4 := hidden hD4
      replace hlen := hidden hlen
      clear hRA3 hb3 hb2 h3' hA3' hRA
      go_wp2_with fail
      refine (kR.out).mono ?_
      rintro ev w5 ⟨bv, rfl, hV, hB5⟩
      have hD5 := hD4.out.more hB5
      have kF := hidden (dFind_at hD5 ok.out hget)
      obtain ⟨ba, bc, rfl, -⟩ := (hV.toC (m := E.mb) (by have := hD4.out.b.ahead; unfold TE.Ahead at this; omega))
      replace hV := hidden hV
      replace hD5 := hidden hD5
      replace hget := hidden hget
      have hb5 := hidden hB5
      clear kR hB5 hw4
      go_wp2_with fail
      refine (kF.out).mono ?_
      rintro ev w6 ⟨rfl, hB6⟩
      have hD6 := hD5.out.more hB6
      have kG := hidden (dFind_err (dfind_none hD6 ok.out NM hok.out hL.out))
      replace hD6 := hidden hD6
      have hb6 := hidden hB6
      clear kF hB6
      go_wp2_with fail
      refine (kG.out).mono ?_
      rintro ev w7 ⟨bk, rfl, hc, hB7⟩
      have hD7 := hD6.out.more hB7
      have kP := hidden (show Calls Tryz.prog 25 #[ptr db, .string (mkB NM), .int .i64 99] w7 _ from dPut_ok hD7 ok.out NM 99 hok.out (by omega) (by omega) hL.out (by rw [hlen.out]; omega))
      replace hD7 := hidden hD7
      replace hc := hidden hc
      have hb7 := hidden hB7
      clear kG hB7
      go_wp2_with fail
      refine (kP.out).mono ?_
      rintro ev w8 ⟨rfl, hD8, hA8⟩
      have hmbl : E.mb < w4.heap.size := by have := hD4.out.b.ahead; unfold TE.Ahead at this; omega
      have hVC := (((hV.out.toC (m := E.mb) hmbl).keep (Apart.of_below hb6.out)).keep (Apart.of_below hb7.out)).keep hA8
      have hRA8 := (((hRA4.out.keep (Apart.of_below (bs := []) hb5.out) (by simp)).keep (Apart.of_below (bs := []) hb6.out) (by simp)).keep (Apart.of_below (bs := []) hb7.out) (by simp)).keep hA8 (by simpa using hmb)
      have hw8 := hD8.from hw0.out
      have hc8 := hD7.out.b.keepChain hc.out hA8
      have hwk := wrap_inD ((k : Int) + 1) (by omega) (by omega)
      have kcv := hidden (fun (wx : World) (hx : Below w8.heap.size w8 wx) => conv_bytes wx _ _ (hVC.at.below hx))
      have kB := hidden (fun (wx : World) (hx : Below w8.heap.size w8 wx) => lbytes_calls (hRA8.below hx) (by rw [hlen.out]; omega) hgd.out)
      have kI := hidden (fun (wx : World) (hx : Below w8.heap.size w8 wx) => law_is 11 rfl wx sDir (mkB NM) [] (flt bk) (hc8.below hx) (kGT.out _ (hw8.trans (hx.mono hw8.size))))
      have kW := hidden (fun (wx : World) (hx : Below w8.heap.size w8 wx) => kA.out wx (hw8.trans (hx.mono hw8.size)))
      have hfin := hidden (fun (wx : World) (hx : Below w8.heap.size w8 wx) => show Below w.heap.size w wx from hw8.trans (hx.mono hw8.size))
      have hS8 : SWs [w8] w8.drew := fun v hv => by rw [List.mem_singleton.1 hv]; exact below_drew1 w8
      generalize ofBytes (recsL LT) = TX8 at *
      generalize (recsL LT).length = TL8 at *
      clear kP hD8 hA8 hVC hRA8 hV hRA4 hD4 hD5 hD6 hD7 hb5 hb6 hb7 hc hc8 hw8 hmbl hgd hlen
      go_upto_region 21 with fail
      refine wp_region_held_drew (S := SWs [w8]) (by kernel_rfl) hS8 ?_
      intro _
      refine wpAnyH_ready (rs := [0]) (by kernel_rfl) (by simp) ?_
      refine AllReadyH.cons rfl (fun K hK => ?_) AllReadyH.nil
      go_simp
      refine hK.out _ _ hS8 (fun _ => ?_)
      clear hK K
      refine wpAnyH_ready (rs := [1]) (by kernel_rfl) (by simp) ?_
      refine AllReadyH.cons rfl (fun K hK => ?_) AllReadyH.nil
      go_simp
      refine hK.out _ _ hS8 (fun _ => ?_)
      clear hK K
      refine wpAnyH_ready (rs := [2]) (by kernel_rfl) (by simp) ?_
      refine AllReadyH.cons rfl (fun K hK => ?_) AllReadyH.nil
      go_simp
      refine hK.out _ _ hS8 (fun _ => ?_)
      clear hK K
      refine wpAnyH_take (i := 3) (v := ?_) rfl (by kernel_rfl) (by kernel_rfl) (by kernel_rfl) (fun _ _ _ h => h) (Or.inl ⟨by rfl, ?_⟩) hS8 ?_
      rotate_left
      · intro w hw; clear hw; go_simp; try (with_reducible rfl)
      refine wpAnyH_take (i := 4) (v := ?_) rfl (by kernel_rfl) (by kernel_rfl) (by kernel_rfl) (fun _ _ _ h => h) (Or.inl ⟨by rfl, ?_⟩) hS8 ?_
      rotate_left
      · intro w hw; have c4 := kcv.out _ (hw.at w8 (by simp)); clear hw; go_simp; try (with_reducible rfl)
      refine wpAnyH_ready (rs := [5]) (by kernel_rfl) (by simp) ?_
      refine AllReadyH.cons rfl (fun K hK => ?_) AllReadyH.nil
      go_simp
      refine hK.out _ _ hS8 (fun _ => ?_)
      clear hK K
      refine wpAnyH_ready (rs := [6]) (by kernel_rfl) (by simp) ?_
      refine AllReadyH.cons rfl (fun K hK => ?_) AllReadyH.nil
      go_simp
      go_wp2_with (go_at_call 28; refine (kB.out _ (hS8.at w8 (by simp))).mono ?_; rintro ev w9 ⟨rfl, hB9⟩)
      refine hK.out _ _ (hS8.more hB9) (fun hSn1 => ?_)
      clear hB9
      clear hK K
      refine wpAnyH_ready (rs := [7]) (by kernel_rfl) (by simp) ?_
      refine AllReadyH.cons rfl (fun K hK => ?_) AllReadyH.nil
      go_simp
      refine hK.out _ _ hSn1 (fun _ => ?_)
      clear hK K
      refine wpAnyH_ready (rs := [8]) (by kernel_rfl) (by simp) ?_
      refine AllReadyH.cons rfl (fun K hK => ?_) AllReadyH.nil
      go_simp
      refine hK.out _ _ hSn1 (fun _ => ?_)
      clear hK K
      refine wpAnyH_ready (rs := [9]) (by kernel_rfl) (by simp) ?_
      refine AllReadyH.cons rfl (fun K hK => ?_) AllReadyH.nil
      go_simp
      refine hK.out _ _ hSn1 (fun _ => ?_)
      clear hK K
      refine wpAnyH_ready (rs := [10]) (by kernel_rfl) (by simp) ?_
      refine AllReadyH.cons rfl (fun K hK => ?_) AllReadyH.nil
      go_simp
      refine hK.out _ _ hSn1 (fun _ => ?_)
      clear hK K
      refine wpAnyH_ready (rs := [11]) (by kernel_rfl) (by simp) ?_
      refine AllReadyH.cons rfl (fun K hK => ?_) AllReadyH.nil
      go_simp
      refine hK.out _ _ hSn1 (fun _ => ?_)
      clear hK K
      refine wpAnyH_ready (rs := [12]) (by kernel_rfl) (by simp) ?_
      refine AllReadyH.cons rfl (fun K hK => ?_) AllReadyH.nil
      go_simp
      refine hK.out _ _ hSn1 (fun _ => ?_)
      clear hK K
      refine wpAnyH_ready (rs := [13]) (by kernel_rfl) (by simp) ?_
      refine AllReadyH.cons rfl (fun K hK => ?_) AllReadyH.nil
      go_simp
      refine hK.out _ _ hSn1 (fun _ => ?_)
      clear hK K
      refine wpAnyH_take (i := 14) (v := ?_) rfl (by kernel_rfl) (by kernel_rfl) (by kernel_rfl) (fun _ _ _ h => h) (Or.inl ⟨by rfl, ?_⟩) hSn1 ?_
      rotate_left
      · intro w hw; clear hw; go_simp; try (with_reducible rfl)
      refine wpAnyH_ready (rs := [15]) (by kernel_rfl) (by simp) ?_
      refine AllReadyH.cons rfl (fun K hK => ?_) AllReadyH.nil
      go_simp
      refine hK.out _ _ hSn1 (fun _ => ?_)
      clear hK K
      refine wpAnyH_ready (rs := [16]) (by kernel_rfl) (by simp) ?_
      refine AllReadyH.cons rfl (fun K hK => ?_) AllReadyH.nil
      go_simp
      refine hK.out _ _ hSn1 (fun _ => ?_)
      clear hK K
      refine wpAnyH_ready (rs := [17]) (by kernel_rfl) (by simp) ?_
      refine AllReadyH.cons rfl (fun K hK => ?_) AllReadyH.nil
      go_simp
      refine hK.out _ _ hSn1 (fun _ => ?_)
      clear hK K
      refine wpAnyH_ready (rs := [18]) (by kernel_rfl) (by simp) ?_
      refine AllReadyH.cons rfl (fun K hK => ?_) AllReadyH.nil
      go_simp
      refine hK.out _ _ hSn1 (fun _ => ?_)
      clear hK K
      refine wpAnyH_ready (rs := [19]) (by kernel_rfl) (by simp) ?_
      refine AllReadyH.cons rfl (fun K hK => ?_) AllReadyH.nil
      go_simp
      refine hK.out _ _ hSn1 (fun _ => ?_)
      clear hK K
      refine wpAnyH_take (i := 20) (v := ?_) rfl (by kernel_rfl) (by kernel_rfl) (by kernel_rfl) (fun _ _ _ h => h) (Or.inl ⟨by rfl, ?_⟩) hSn1 ?_
      rotate_left
      · intro w hw; clear hw; go_simp; try (with_reducible rfl)
      refine wpAnyH_ready (rs := [21]) (by kernel_rfl) (by simp) ?_
      refine AllReadyH.cons rfl (fun K hK => ?_) AllReadyH.nil
      go_simp
      refine hK.out _ _ hSn1 (fun _ => ?_)
      clear hK K
      refine wpAnyH_ready (rs := [22]) (by kernel_rfl) (by simp) ?_
      refine AllReadyH.cons rfl (fun K hK => ?_) AllReadyH.nil
      go_simp
      go_wp2_with (go_at_call 14; refine (kI.out _ (hSn1.at w8 (by simp))).mono ?_; rintro ev w10 ⟨rfl, hB10⟩)
      refine hK.out _ _ (hSn1.more hB10) (fun hSn2 => ?_)
      clear hB10
      clear hK K
      refine wpAnyH_ready (rs := [23]) (by kernel_rfl) (by simp) ?_
      refine AllReadyH.cons rfl (fun K hK => ?_) AllReadyH.nil
      go_simp
      refine hK.out _ _ hSn2 (fun _ => ?_)
      clear hK K
      refine wpAnyH_ready (rs := [24]) (by kernel_rfl) (by simp) ?_
      refine AllReadyH.cons rfl (fun K hK => ?_) AllReadyH.nil
      go_simp
      refine hK.out _ _ hSn2 (fun _ => ?_)
      clear hK K
      refine wpAnyH_ready (rs := [25]) (by kernel_rfl) (by simp) ?_
      refine AllReadyH.cons rfl (fun K hK => ?_) AllReadyH.nil
      go_simp
      refine hK.out _ _ hSn2 (fun _ => ?_)
      clear hK K
      refine wpAnyH_ready (rs := [26]) (by kernel_rfl) (by simp) ?_
      refine AllReadyH.cons rfl (fun K hK => ?_) AllReadyH.nil
      go_simp
      refine hK.out _ _ hSn2 (fun _ => ?_)
      clear hK K
      refine wpAnyH_ready (rs := [27]) (by kernel_rfl) (by simp) ?_
      refine AllReadyH.cons rfl (fun K hK => ?_) AllReadyH.nil
      go_simp
      refine hK.out _ _ hSn2 (fun _ => ?_)
      clear hK K
      refine wpAnyH_ready (rs := [28]) (by kernel_rfl) (by simp) ?_
      refine AllReadyH.cons rfl (fun K hK => ?_) AllReadyH.nil
      go_simp
      refine hK.out _ _ hSn2 (fun _ => ?_)
      clear hK K
      refine wpAnyH_ready (rs := [29]) (by kernel_rfl) (by simp) ?_
      refine AllReadyH.cons rfl (fun K hK => ?_) AllReadyH.nil
      go_simp
      go_wp2_with (go_at_call 29; refine (kW.out _ (hSn2.at w8 (by simp))).mono ?_; rintro ev w11 ⟨rfl, hB11⟩)
      refine hK.out _ _ (hSn2.more hB11) (fun hSn3 => ?_)
      clear hB11
      clear hK K
      refine wpAnyH_ready (rs := [30]) (by kernel_rfl) (by simp) ?_
      refine AllReadyH.cons rfl (fun K hK => ?_) AllReadyH.nil
      go_simp
      refine hK.out _ _ hSn3 (fun _ => ?_)
      clear hK K
      refine wpAnyH_ready (rs := [31]) (by kernel_rfl) (by simp) ?_
      refine AllReadyH.cons rfl (fun K hK => ?_) AllReadyH.nil
      go_simp
      refine hK.out _ _ hSn3 (fun _ => ?_)
      clear hK K
      refine wpAnyH_done (by kernel_rfl) ?_ _
      have hz := hidden (hSn3.at w8 (by simp))
      go_wp2
      go_ret
      exact ⟨by simp, hfin.out _ hz.out⟩
      
end Go.Proofs.YtpofdffogkojdaaGreatDoor
