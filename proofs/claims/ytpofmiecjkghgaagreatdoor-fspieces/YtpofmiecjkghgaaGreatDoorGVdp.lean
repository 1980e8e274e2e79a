/- take of any number; the inode's own blocks, whatever is laid. -/
import Derived.Test.YtpofmiecjkghgaaGreatDoorGVbp
import Derived.Test.YtpofmiecjkghgaaGreatDoorGVcp
import Derived.Test.YtpofmiecjkghgaaGreatDoorGVap
import Derived.Test.YtpofmiecjkghgaaGreatDoorGIgp
namespace Go.Proofs.YtpofmiecjkghgaaGreatDoor
open Go.RowKit Go.Extern.Stop Go.Stop Go.Extern Go.Maps Go.Sort Go.Shelf
set_option maxRecDepth 100000
set_option maxHeartbeats 12000000
section
variable {E : TE} {mem : Nat -> Int} {writes : Int} {M : Chg} {w w' : World}
theorem itake_any (h : E.St mem writes M w) (ok : E.Ok) (n : Nat) (hn : n <= freeN (bitM mem M E.ma) E.ku) (hn2 : n <= 500) :
    Calls Tryz.prog 225 #[ptr E.tb, .int .i64 n] w fun e w' => ∃ v l M', e = .returned (.tuple #[v, .nilIface]) /\ l.length = n /\ (n = 0 -> v = .slice none 0 0) /\ Kept w.heap.size w' v l /\ E.Took mem M M' l /\ E.St mem writes M' w' /\ Apart [E.mb] w w' := by
  rcases Nat.eq_zero_or_pos n with rfl | h0
  · refine (itake_none E.tb).mono ?_
    rintro e w' ⟨rfl, rfl⟩
    exact ⟨_, [], M, rfl, rfl, fun _ => rfl, Kept.nil _ _, TE.Took.nil _ _ _, h, Apart.refl _ _⟩
  · refine (itake_calls h ok n hn h0 hn2).mono ?_
    rintro e w' ⟨v, l, M', rfl, q1, q2⟩
    exact ⟨v, l, M', rfl, q1, fun e => absurd e (by omega), q2⟩
theorem isettle_calls (h : E.St mem writes M w) (ok : E.Ok) (id : Nat) (h1 : 1 <= id) (h2 : id <= E.tn) (hR : E.R id) (K0 S0 : Int) (K S L0 : Nat) (a0 : Option Addr) (c0 : Nat) {v : Value} {ks : List Int} (hv : IntsC E.mb w v ks) (hS : ¬ S0 = (S : Int)) (hK : K <= 255) (hSb : S < 65536) (hks : ∀ z ∈ ks, 0 <= z /\ z < 2147483648) (hl : ks.length <= 33) (hinA : ∀ z ∈ ks, z.toNat ∈ E.A) :
    Calls Tryz.prog 223 #[ptr E.tb, .int .i64 id, nodeV K0 S0 (.slice a0 L0 c0), nodeV K S v] w fun e w' => e = .returned .nilIface /\ ∃ M', Settled mem M M' (E.ta + id - 1) K S ks L0 /\ E.St mem writes M' w' /\ Apart [E.mb] w w' := by
  obtain ⟨av, cv, rfl, -, -, -, hvc⟩ := hv.at
  have kHm : ∀ wx Mx, E.St mem writes Mx wx -> Calls Tryz.prog 171 #[ptr E.tb, .int .i64 id] wx fun e w' => e = .returned (.int .i64 ((E.ta + id - 1 : Nat) : Int)) /\ w' = wx := fun wx Mx hx => ihome_calls hx.t id h1 (by have := ok.tn; omega) (by have := ok.ta; omega)
  have kWr := fun (wx : World) (hx : Apart [E.mb] w wx) => iwritten_calls (w := wx) K S hK hSb (hv wx hx) hks
  have kC1 : ∀ wx Mx, E.St mem writes Mx wx -> ∀ b base, OwnB base wx b 128 128 (recL K S ks) -> Calls Tryz.prog 170 #[ptr E.cb, .int .i64 ((E.ta + id - 1 : Nat) : Int), .int .i64 0, .slice (some ⟨b, 0, none⟩) 128 128] wx fun e w' => e = .returned .nilIface /\ ∃ M', E.St mem writes M' w' /\ Apart [E.mb] wx w' /\ ∀ j, nowM mem M' j = if j = E.ta + id - 1 then recL K S ks else nowM mem Mx j := fun wx Mx hx b base hb => by
    have hr := recL_row hK hSb ks
    refine (hx.write ok (ok.recs id h1 h2 hR) 0 _ _ hb.bytes (by rw [hr.1]; omega)).mono ?_
    rintro e w' ⟨rfl, M', q1, q2, q3⟩
    refine ⟨rfl, M', q1, q2, fun j => ?_⟩
    rw [q3 j, layL_full (hx.row _).1 hr.1]
  by_cases hb : 9 < ks.length /\ ¬ ks.length = L0
  · obtain ⟨h9, hne⟩ := hb
    obtain ⟨b8, off8, hav, -, -⟩ := hvc (by intro e; rw [e] at h9; simp at h9)
    have hm : ks.getD 8 0 ∈ ks := getD_mem (by omega)
    have hz : (((ks.getD 8 0).toNat : Nat) : Int) = ks.getD 8 0 := by have := hks _ hm; omega
    refine isettle_long (E.ta + id - 1) id K0 S0 K S L0 a0 c0 (recL K S ks) (restL ks) (ks.getD 8 0) hS h kHm kWr kC1 ok.tbm h9 hne hav (fun wx hx => ?_) (fun wx hx => irest_calls (w := wx) K S (hv wx hx) h9 (by omega) hks) (fun wx hx b base hb => ?_)
    · obtain ⟨a2, cap2, hv2, -, -, -, hk2⟩ := hv wx hx
      obtain ⟨rfl, -, -⟩ := Value.slice.inj hv2
      obtain ⟨b2, off2, e2, -, hk3⟩ := hk2 (by intro e; rw [e] at h9; simp at h9)
      rw [hav] at e2
      simp only [Option.some.injEq, Addr.mk.injEq] at e2
      obtain ⟨rfl, rfl, -⟩ := e2
      exact hk3 8 (by omega)
    · have hr := restL_row (ks := ks) (by omega)
      have := hx.write ok (hinA _ hm) 0 _ _ hb.bytes (by rw [hr.1]; omega)
      rw [hz] at this
      refine this.mono ?_
      rintro e w' ⟨rfl, M', q1, q2, q3⟩
      refine ⟨rfl, M', q1, q2, fun j => ?_⟩
      rw [q3 j, layL_full (hx.row _).1 hr.1]
  · exact isettle_short (E.ta + id - 1) id K0 S0 K S L0 a0 c0 (recL K S ks) (restL ks) (ks.getD 8 0) hS h kHm kWr kC1 ok.tbm hb
end
structure Caps (E : TE) (p q r s u o : Nat) (id K S S2 at_ : Int) (xv nv bv : Value) (w : World) : Prop where
  t : w.cell? ⟨p, 0, none⟩ = some (ptr E.tb)
  x : NdAt w q K S xv
  now : NdAt w r K S2 nv
  nowf : w.frozen? ⟨r, 2, none⟩ = false
  at_ : w.cell? ⟨s, 0, none⟩ = some (.int .i64 at_)
  b : w.cell? ⟨u, 0, none⟩ = some bv
  id : w.cell? ⟨o, 0, none⟩ = some (.int .i64 id)
  nowT : ∃ cs fz, w.heap[r]? = some (.cells cs 151 fz)
theorem Caps.keep {E : TE} {p q r s u o : Nat} {id K S S2 at_ : Int} {xv nv bv : Value} {w w' : World} {bs : List Nat} (h : Caps E p q r s u o id K S S2 at_ xv nv bv w) (ha : Apart bs w w') (hn : p ∉ bs /\ q ∉ bs /\ r ∉ bs /\ s ∉ bs /\ u ∉ bs /\ o ∉ bs) : Caps E p q r s u o id K S S2 at_ xv nv bv w' :=
  ⟨(ha.cell (p := ⟨p, 0, none⟩) (lt_of_cell h.t) hn.1).trans h.t, h.x.keep ha hn.2.1, h.now.keep ha hn.2.2.1, (ha.frozen (p := ⟨r, 2, none⟩) (lt_of_cell (a := ⟨r, 0, none⟩) h.now.c0) hn.2.2.1).trans h.nowf, (ha.cell (p := ⟨s, 0, none⟩) (lt_of_cell h.at_) hn.2.2.2.1).trans h.at_, (ha.cell (p := ⟨u, 0, none⟩) (lt_of_cell h.b) hn.2.2.2.2.1).trans h.b, (ha.cell (p := ⟨o, 0, none⟩) (lt_of_cell h.id) hn.2.2.2.2.2).trans h.id, by obtain ⟨cs, fz, e⟩ := h.nowT; exact ⟨cs, fz, (ha.block r (lt_of_cell (a := ⟨r, 0, none⟩) h.now.c0) hn.2.2.1).trans e⟩⟩
structure CapsN (E : TE) (p q r s u o : Nat) (id K S S2 at_ : Int) (xv nv bv : Value) (w : World) : Prop where
  t : w.cell? ⟨p, 0, none⟩ = some (ptr E.tb)
  x : NdAt w q K S xv
  now : NdAt w r K S2 nv
  at_ : w.cell? ⟨s, 0, none⟩ = some (.int .i64 at_)
  b : w.cell? ⟨u, 0, none⟩ = some bv
  id : w.cell? ⟨o, 0, none⟩ = some (.int .i64 id)
theorem CapsN.keep {E : TE} {p q r s u o : Nat} {id K S S2 at_ : Int} {xv nv bv : Value} {w w' : World} {bs : List Nat} (h : CapsN E p q r s u o id K S S2 at_ xv nv bv w) (ha : Apart bs w w') (hn : p ∉ bs /\ q ∉ bs /\ r ∉ bs /\ s ∉ bs /\ u ∉ bs /\ o ∉ bs) : CapsN E p q r s u o id K S S2 at_ xv nv bv w' :=
  ⟨(ha.cell (p := ⟨p, 0, none⟩) (lt_of_cell h.t) hn.1).trans h.t, h.x.keep ha hn.2.1, h.now.keep ha hn.2.2.1, (ha.cell (p := ⟨s, 0, none⟩) (lt_of_cell h.at_) hn.2.2.2.1).trans h.at_, (ha.cell (p := ⟨u, 0, none⟩) (lt_of_cell h.b) hn.2.2.2.2.1).trans h.b, (ha.cell (p := ⟨o, 0, none⟩) (lt_of_cell h.id) hn.2.2.2.2.2).trans h.id⟩
section
variable {E : TE} {mem : Nat -> Int} {writes : Int} {M : Chg} {w w' : World}
def PutEff (E : TE) (mem : Nat -> Int) (M M' : Chg) (rec K S S2 : Nat) (ks l zs : List Int) (at_ : Nat) : Prop :=
  ∃ M3 M6, E.Took mem M M3 l /\ Laid mem M3 M6 (ks ++ l) at_ zs /\ ((S = S2 /\ M' = M6) \/ (S ≠ S2 /\ Settled mem M6 M' rec K S2 (ks ++ l) ks.length))
theorem kept_more {base : Nat} {w : World} {v v2 : Value} {ks l : List Int} {b2 : Nat} (h : Kept base w v ks) (h2 : Kept b2 w v2 l) (he : l.length = 0 -> v2 = .slice none 0 0) (hn : ks.length + l.length <= 1000) (hbase : base <= w.heap.size) (ty : TypeId) :
    ∃ v' w', (Builtin.append_ #[58, 58] ty #[v, v2]).run Tryz.prog w = .ok v' w' /\ Kept base w' v' (ks ++ l) /\ Below base w w' /\ ∀ b, b < w.heap.size -> some b ≠ v.ownBlock -> w'.heap[b]? = w.heap[b]? := by
  by_cases hl : l = []
  · subst hl
    rw [he rfl]
    obtain ⟨i0, hi, -⟩ := info_parts3 Tryz.infoInt
    refine ⟨v, w, run_append_owned_none w base 58 ty 3 i0 1 Tryz.underlying58 hi v ks.length _ h.row, by rw [List.append_nil]; exact h, Below.refl _ _, fun _ _ _ => rfl⟩
  · obtain ⟨a, cap, rfl, hf⟩ := h2.form
    obtain ⟨b, rfl, -, -, hc⟩ := hf hl
    exact kept_append h ⟨b, 0, none⟩ l.length cap l rfl (fun j hj => by rw [Go.WideShapes.add_plain, Nat.zero_add]; exact hc j hj) hn hbase ty
theorem put1_ok {p q r s u o : Nat} {id K S S2 at_ : Nat} {xv bv : Value} {ks zs : List Int} {base n : Nat} {W : World} (hc : Caps E p q r s u o id K S S2 at_ xv xv bv w) (hne : p ≠ E.mb /\ q ≠ E.mb /\ r ≠ E.mb /\ s ≠ E.mb /\ u ≠ E.mb /\ o ≠ E.mb) (hrr : p ≠ r /\ q ≠ r /\ s ≠ r /\ u ≠ r /\ o ≠ r)
    (h : E.St mem writes M w) (ok : E.Ok) (hah : E.Ahead base) (hW : Apart [E.mb] W w) (hWb : W.heap.size <= base) (hx : Kept base w xv ks) (hbr : base <= r /\ base <= w.heap.size) (hown : ∀ g, xv.ownBlock = some g -> g < p /\ g < q /\ g < r /\ g < s /\ g < u /\ g < o)
    (hb : ∀ wx : World, (∀ b, b < w.heap.size -> b ≠ E.mb -> b ≠ r -> some b ≠ xv.ownBlock -> wx.heap[b]? = w.heap[b]?) -> w.heap.size <= wx.heap.size -> BytesC E.mb wx bv zs)
    (hid : 1 <= id /\ id <= E.tn) (hn : growb S S2 = n) (hfree : n <= freeN (bitM mem M E.ma) E.ku) (hn5 : n <= 500) (hK : K <= 255) (hS2 : S2 <= 4000) (hsz : at_ + zs.length <= S2) (hlen : ((ks.length + n : Nat) : Int) = blk S2) (hnd : ks.Nodup) (hmine : ∀ z ∈ ks, ∃ i, i < E.k /\ z = E.fr + (i : Int) /\ bitM mem M E.ma i = true) (hst : E.R id /\ (∀ z ∈ ks, ∃ i, (i < E.k /\ E.U i) /\ z = E.fr + (i : Int)) /\ ∀ i, i < E.ku -> bitM mem M E.ma i = false -> E.U i) :
    Calls Tryz.prog 224 #[ptr p, ptr q, ptr r, ptr s, ptr u, ptr o] w fun e w' => e = .returned .nilIface /\ ∃ l M', l.length = n /\ PutEff E mem M M' (E.ta + id - 1) K S S2 ks l zs at_ /\ E.St mem writes M' w' /\ Apart [E.mb] W w' /\ (∀ b, b < w.heap.size -> b ≠ E.mb -> b ≠ r -> some b ≠ xv.ownBlock -> w'.heap[b]? = w.heap[b]?) := by
  have kk := hidden (fun (wx : World) (hx : Apart [E.mb] w wx) => hc.keep hx (by simpa using hne))
  have hBd := hidden (below_drew1 w)
  have hwlt := h.lts.2.2.2.2.1
  have kG := hidden (fun (wx : World) => grow_calls S S2 wx)
  have kT := hidden (fun (wx : World) (hx : Below w.heap.size w wx) => itake_any (h.more hx) ok n hfree hn5)
  rw [hn] at kG
  have c0 := hc.t
  have c1 := hc.x.c1
  have c2 := hc.now.c1
  have hblr := blk_range (S2 : Int)
  have hbx := hidden hx
  replace hst := hidden hst
  obtain ⟨xa, xc, hxE, -⟩ := hx.form
  clear h hc
  replace ok := hidden ok
  replace hah := hidden hah
  replace hW := hidden hW
  replace hown := hidden hown
  replace hb := hidden hb
  replace hmine := hidden hmine
  replace hnd := hidden hnd
  replace hlen := hidden hlen
  replace hfree := hidden hfree
  replace hn := hidden hn
  go_enter Tryz.func224, Tryz.ntmps224
  go_upto_region 1 with fail
  go_cut [7, 8] (fun a b wx => ∃ v3 l3 M3, a = v3 /\ b = .nilIface /\ l3.length = n /\ (n = 0 -> v3 = .slice none 0 0) /\ Kept w.heap.size wx v3 l3 /\ E.Took mem M M3 l3 /\ E.St mem writes M3 wx /\ Apart [E.mb] w wx)
  case first =>
    have hS0 := Apart.of_below (bs := [E.mb]) hBd.out
    refine wp_region_held_drew (S := fun w' => Apart [E.mb] w w') (by kernel_rfl) hS0 ?_
    intro _
    refine wpAnyH_take (i := 0) (v := ?_) rfl (by kernel_rfl) (by kernel_rfl) (by kernel_rfl) (fun _ _ _ h => h) (Or.inl ⟨by rfl, ?_⟩) hS0 ?_
    rotate_left
    · intro w hw; have x0 := kk.out _ hw; have x1 := x0.t; clear x0; clear hw; go_simp; try (with_reducible rfl)
    refine wpAnyH_take (i := 1) (v := ?_) rfl (by kernel_rfl) (by kernel_rfl) (by kernel_rfl) (fun _ _ _ h => h) (Or.inl ⟨by rfl, ?_⟩) hS0 ?_
    rotate_left
    · intro w hw; clear hw; go_simp; try (with_reducible rfl)
    refine wpAnyH_take (i := 2) (v := ?_) rfl (by kernel_rfl) (by kernel_rfl) (by kernel_rfl) (fun _ _ _ h => h) (Or.inl ⟨by rfl, ?_⟩) hS0 ?_
    rotate_left
    · intro w hw; have x0 := kk.out _ hw; have x1 := x0.x.c1; clear x0; clear hw; go_simp; try (with_reducible rfl)
    refine wpAnyH_ready (rs := [3]) (by kernel_rfl) (by simp) ?_
    refine AllReadyH.cons rfl (fun K hK => ?_) AllReadyH.nil
    go_simp
    refine hK.out _ _ hS0 (fun _ => ?_)
    clear hK K
    refine wpAnyH_ready (rs := [4]) (by kernel_rfl) (by simp) ?_
    refine AllReadyH.cons rfl (fun K hK => ?_) AllReadyH.nil
    have x0 := kk.out _ hS0; have x1 := x0.now.c1; clear x0
    go_simp
    refine hK.out _ _ hS0 (fun _ => ?_)
    clear hK K
    refine wpAnyH_ready (rs := [5]) (by kernel_rfl) (by simp) ?_
    refine AllReadyH.cons rfl (fun K hK => ?_) AllReadyH.nil
    go_simp
    go_wp2_with (go_at_call 120; refine (kG.out _).mono ?_; rintro ev w2 ⟨rfl, rfl⟩)
    refine hK.out _ _ hS0 (fun _ => ?_)
    clear hK K
    refine wpAnyH_ready (rs := [6]) (by kernel_rfl) (by simp) ?_
    refine AllReadyH.cons rfl (fun K hK => ?_) AllReadyH.nil
    go_simp
    go_wp2_with (go_at_call 225; refine (kT.out _ hBd.out).mono ?_; rintro ev w3 ⟨v3, l3, M3, rfl, t1, t2, t3, t4, t5, t6⟩)
    refine hK.out _ _ (hS0.trans t6) (fun hSn1 => ?_)
    clear hK K
    refine wpAnyH_ready (rs := [7]) (by kernel_rfl) (by simp) ?_
    refine AllReadyH.cons rfl (fun K hK => ?_) AllReadyH.nil
    go_simp
    refine hK.out _ _ hSn1 (fun _ => ?_)
    clear hK K
    refine wpAnyH_take (i := 8) (v := ?_) rfl (by kernel_rfl) (by kernel_rfl) (by kernel_rfl) (fun _ _ _ h => h) (Or.inl ⟨by rfl, ?_⟩) hSn1 ?_
    rotate_left
    · intro w hw; clear hw; go_simp; try (with_reducible rfl)
    refine wpAnyH_take (i := 9) (v := ?_) rfl (by kernel_rfl) (by kernel_rfl) (by kernel_rfl) (fun _ _ _ h => h) (Or.inl ⟨by rfl, ?_⟩) hSn1 ?_
    rotate_left
    · intro w hw; clear hw; go_simp; try (with_reducible rfl)
    refine wpAnyH_ready (rs := [10]) (by kernel_rfl) (by simp) ?_
    refine AllReadyH.cons rfl (fun K hK => ?_) AllReadyH.nil
    go_simp
    refine hK.out _ _ hSn1 (fun _ => ?_)
    clear hK K
    refine wpAnyH_ready (rs := [11]) (by kernel_rfl) (by simp) ?_
    refine AllReadyH.cons rfl (fun K hK => ?_) AllReadyH.nil
    go_simp
    refine hK.out _ _ hSn1 (fun _ => ?_)
    clear hK K
    refine wpAnyH_done (by kernel_rfl) ?_ _
    have hE3 := hidden (And.intro t1 (And.intro t2 (And.intro t3 (And.intro t4 (And.intro t5 hSn1)))))
    clear t1 t2 t3 t4 t5 t6
    go_wp2
    go_meet
    case rel => exact ⟨_, l3, M3, rfl, rfl, hE3.out⟩
  case rest =>
    rename World => w3
    obtain ⟨v3, l3, M3, rfl, rfl, t1, t2, t3, t4, t5, t6⟩ := hcut
    have hcp := kk.out _ t6
    have hx3 := hbx.out.keep t6 (by simp; have := hah.out.2.2.2.2.1; omega)
    have hs3 := t6.size
    obtain ⟨v4, w4, hrun, hk4, hB4, hfr4⟩ := kept_more hx3 t3 (fun e => t2 (by omega)) (by have := hlen.out; omega) (by omega) 58
    have hA34 : Apart (xv.ownBlock.toList) w3 w4 := ⟨hB4.os, hB4.tape, hB4.output, hB4.size, fun k hk hn => hfr4 k hk (fun e => hn (by rw [<- e]; simp))⟩
    have hno : ∀ x, (∀ g, xv.ownBlock = some g -> g < x) -> x ∉ xv.ownBlock.toList := fun x hx hm => by
      have := hx x (by simpa using hm)
      omega
    have hcp4 := hcp.keep hA34 ⟨hno p (fun g hg => (hown.out g hg).1), hno q (fun g hg => (hown.out g hg).2.1), hno r (fun g hg => (hown.out g hg).2.2.1), hno s (fun g hg => (hown.out g hg).2.2.2.1), hno u (fun g hg => (hown.out g hg).2.2.2.2.1), hno o (fun g hg => (hown.out g hg).2.2.2.2.2)⟩
    have hcp4' := hcp4
    have hne4 : ∀ g, v4.ownBlock = some g -> g ≠ r := fun g hg e => by
      rcases hk4.row.2 with ⟨h0, -⟩ | ⟨g', cap', cur, hv', h1', hh, -⟩
      · rw [h0] at hg; cases hg
      · rw [hv'] at hg
        have : g' = g := by simpa [Value.ownBlock] using hg
        obtain ⟨cs, fz, hT⟩ := hcp4.nowT
        rw [this, e, hT] at hh
        simp at hh
    have hAr : Apart [r] w4 (w4.setCell ⟨r, 2, none⟩ v4) := (Apart.refl _ w4).setCell (p := ⟨r, 2, none⟩) (by simp) _
    have hk5 := hk4.keep2 hAr (fun g hg => by simpa using hne4 g hg)
    have hB5 : Below base w3 (w4.setCell ⟨r, 2, none⟩ v4) := hB4.setCell (p := ⟨r, 2, none⟩) hbr.1 v4
    have hS5 := t5.over hah.out hB5
    have hcp5 : CapsN E p q r s u o id K S S2 at_ xv v4 bv (w4.setCell ⟨r, 2, none⟩ v4) := by
      obtain ⟨d1, d2, d3, -, d5, d6, d7, -⟩ := hcp4'
      have hl : ∀ x j v, w4.cell? ⟨x, j, none⟩ = some v -> x ≠ r -> (w4.setCell ⟨r, 2, none⟩ v4).cell? ⟨x, j, none⟩ = some v := fun x j v hx hne => (World.cell?_setCell_other _ _ _ _ (by intro e; exact hne (congrArg Addr.block e).symm)).trans hx
      refine ⟨hl _ _ _ d1 hrr.1, ⟨hl _ _ _ d2.c0 hrr.2.1, hl _ _ _ d2.c1 hrr.2.1, hl _ _ _ d2.c2 hrr.2.1⟩, ⟨?_, ?_, ?_⟩, hl _ _ _ d5 hrr.2.2.1, hl _ _ _ d6 hrr.2.2.2.1, hl _ _ _ d7 hrr.2.2.2.2⟩
      · exact (World.cell?_setCell_other _ _ _ _ (by simp)).trans d3.c0
      · exact (World.cell?_setCell_other _ _ _ _ (by simp)).trans d3.c1
      · exact World.cell?_setCell_same' _ _ _ (by rw [d3.c2]; rfl)
    have hs4 := hB4.size
    have hF5 : ∀ b, b < w.heap.size -> b ≠ E.mb -> b ≠ r -> some b ≠ xv.ownBlock -> (w4.setCell ⟨r, 2, none⟩ v4).heap[b]? = w.heap[b]? := fun b hb1 hb2 hb3 hb4 => by
      rw [Below.heap_setCell _ _ _ _ hb3, hfr4 b (by omega) hb4, t6.block b hb1 (by simpa using hb2)]
    have hbv5 := hb.out (w4.setCell ⟨r, 2, none⟩ v4) hF5 (by simp; omega)
    have hs5 : w.heap.size <= (w4.setCell ⟨r, 2, none⟩ v4).heap.size := by simp; omega
    replace hF5 := hidden hF5
    have hA5 : Apart [E.mb] W (w4.setCell ⟨r, 2, none⟩ v4) := ((hW.out.trans t6)).over hWb hB5
    have hall : ∀ z ∈ ks ++ l3, ∃ i, (i < E.k /\ E.U i) /\ z = E.fr + (i : Int) := fun z hz => by
      rcases List.mem_append.1 hz with hz | hz
      · exact hst.out.2.1 z hz
      · obtain ⟨i, h1, h2, h3⟩ := t4.mine z hz
        obtain ⟨j, j1, j2⟩ := t4.low z hz
        obtain rfl : j = i := by omega
        exact ⟨j, ⟨h1, hst.out.2.2 j j1 h3⟩, h2⟩
    have hndA : (ks ++ l3).Nodup := List.nodup_append.2 ⟨hnd.out, t4.nodup, fun a ha b hb e => by
      obtain ⟨i, i1, i2, i3⟩ := hmine.out a ha
      obtain ⟨j, j1, j2, j3⟩ := t4.mine b hb
      obtain rfl : i = j := by omega
      rw [i3] at j3
      cases j3⟩
    have hlA : (((ks ++ l3).length : Nat) : Int) = blk S2 := by rw [List.length_append, t1]; exact hlen.out
    have hl33 : (ks ++ l3).length <= 33 := by omega
    have kL := hidden (ilay_calls hS5 ok.out hk5.ints K S2 at_ hbv5 (by omega) (by omega) hndA hall (fun y h1 h2 => by
      have := idxN_lt hS2 (q := y) (by omega)
      omega))
    have hksr : Hid (∀ z ∈ ks ++ l3, 0 <= z /\ z < 2147483648) := hidden (fun z hz => by
      obtain ⟨i, h1, h2⟩ := hall z hz
      have := ok.out.fr
      have := h1.1
      omega)
    have hinA : Hid (∀ z ∈ ks ++ l3, z.toNat ∈ E.A) := hidden (fun z hz => by
      obtain ⟨i, h1, h2⟩ := hall z hz
      have : z.toNat = E.fr + i := by omega
      exact this ▸ ok.out.data i h1.1 h1.2)
    have hC5 := hidden (hk5.toC (m := E.mb) (by have := hah.out.2.2.2.2.1; omega))
    have hTk := hidden t4
    have hl3n := hidden t1
    have hv3f := hidden t3
    have hcpn := hcp4.now.c2
    have hcpf := hcp4.nowf
    have hcpw := hcp.now.c2
    have e5t := hcp5.t
    have e5n0 := hcp5.now.c0
    have e5n1 := hcp5.now.c1
    have e5n2 := hcp5.now.c2
    have e5a := hcp5.at_
    have e5b := hcp5.b
    replace hcp5 := hidden hcp5
    have hrl4 : r < w4.heap.size := lt_of_cell (a := ⟨r, 0, none⟩) hcp4.now.c0
    replace hA5 := hidden hA5
    obtain ⟨a4, c4, rfl, -⟩ := hk4.form
    generalize hw5 : w4.setCell ⟨r, 2, none⟩ (.slice a4 (ks ++ l3).length c4) = w5 at *
    obtain ⟨bva, bvl, bvc, rfl⟩ : ∃ a l c, bv = .slice a l c := by
      obtain ⟨a, c, e, -⟩ := hbv5
      exact ⟨a, _, c, e⟩
    replace hrun := hidden hrun
    clear hk4 hk5 hS5 hbv5 hcp hcp4 hcp4' hA34 hno hne4 hAr hB5 hB4 hfr4 hall hndA t1 t2 t3 t4 t5 t6 hx3 kk hBd kG kT c0 c1 c2 hbx hx
    subst hxE
    obtain ⟨x3a, x3c, hv3E, -⟩ := hv3f.out.form
    subst hv3E
    clear hv3f
    generalize hKL : (ks ++ l3).length = KL at *
    replace hKL := hidden hKL
    go_wp2_with (at_builtin; refine wpList_append_eq _ _ 58 rfl _ _ (.slice a4 KL c4) w4 rfl rfl hrun.out rfl ?_)
    refine (kL.out).mono ?_
    rintro ev w6 ⟨rfl, M6, hLd, hS6, hA6⟩
    have hcp6 := hcp5.out.keep hA6 (by simpa using hne)
    have f6t := hcp6.t
    have f6i := hcp6.id
    have f6x0 := hcp6.x.c0
    have f6x1 := hcp6.x.c1
    have f6x2 := hcp6.x.c2
    have f6n0 := hcp6.now.c0
    have f6n1 := hcp6.now.c1
    have f6n2 := hcp6.now.c2
    have hA06 := hidden (hA5.out.trans hA6)
    have hF6 := hidden (fun (b : Nat) (b1 : b < w.heap.size) (b2 : b ≠ E.mb) (b3 : b ≠ r) (b4 : some b ≠ (Value.slice xa ks.length xc).ownBlock) => (hA6.block b (by omega) (by simpa using b2)).trans (hF5.out b b1 b2 b3 b4))
    have hs6 := hA6.size
    by_cases hSS : S = S2
    · subst hSS
      have hE6 : Hid (∀ w7, Below w6.heap.size w6 w7 -> ∃ l M', l.length = n /\ PutEff E mem M M' (E.ta + id - 1) K S S ks l zs at_ /\ E.St mem writes M' w7 /\ Apart [E.mb] W w7 /\ (∀ b, b < w.heap.size -> b ≠ E.mb -> b ≠ r -> some b ≠ (Value.slice xa ks.length xc).ownBlock -> w7.heap[b]? = w.heap[b]?)) := hidden (fun w7 hB7 => ⟨l3, M6, hl3n.out, ⟨M3, M6, hTk.out, hLd, Or.inl ⟨rfl, rfl⟩⟩, hS6.more hB7, hA06.out.trans (Apart.of_below hB7), fun b b1 b2 b3 b4 => (hB7.block b (by omega)).trans (hF6.out b b1 b2 b3 b4)⟩)
      clear hLd hS6 hA6 hcp6 kL hrun hTk hcp5
      go_wp2_with fail
      refine (isettle_same E.tb _ _ _ _ _ _).mono ?_
      rintro ev w7 ⟨rfl, hB7⟩
      have hE := hidden (hE6.out _ hB7)
      clear hB7 hE6
      go_wp2
      go_ret
      exact ⟨rfl, hE.out⟩
    · have kS := isettle_calls hS6 ok.out id hid.1 hid.2 hst.out.1 K S K S2 ks.length xa xc (hC5.out.keep hA6) (by omega) hK (by omega) hksr.out (by rw [hKL.out]; exact hl33) hinA.out
      replace kS := hidden kS
      have hE6 : Hid (∀ w7 M7, Settled mem M6 M7 (E.ta + id - 1) K S2 (ks ++ l3) ks.length -> E.St mem writes M7 w7 -> Apart [E.mb] w6 w7 -> ∃ l M', l.length = n /\ PutEff E mem M M' (E.ta + id - 1) K S S2 ks l zs at_ /\ E.St mem writes M' w7 /\ Apart [E.mb] W w7 /\ (∀ b, b < w.heap.size -> b ≠ E.mb -> b ≠ r -> some b ≠ (Value.slice xa ks.length xc).ownBlock -> w7.heap[b]? = w.heap[b]?)) := hidden (fun w7 M7 g1 g2 g3 => ⟨l3, M7, hl3n.out, ⟨M3, M6, hTk.out, hLd, Or.inr ⟨hSS, g1⟩⟩, g2, hA06.out.trans g3, fun b b1 b2 b3 b4 => (g3.block b (by omega) (by simpa using b2)).trans (hF6.out b b1 b2 b3 b4)⟩)
      clear hLd hS6 hA6 hcp6 kL hrun hTk hcp5 hC5
      go_wp2_with fail
      refine (kS.out).mono ?_
      rintro ev w7 ⟨rfl, M7, g1, g2, g3⟩
      have hE := hidden (hE6.out _ _ g1 g2 g3)
      clear g1 g2 g3 hE6 kS
      go_wp2
      go_ret
      exact ⟨rfl, hE.out⟩
end
section
variable {E : TE} {mem : Nat -> Int} {writes : Int} {M : Chg} {w w' : World}
def boxW (w : World) (tb : Nat) (id K S S2 at_ : Int) (xv bv : Value) : World :=
  (((((w.alloc (.cells #[ptr tb] 94)).alloc (.cells #[.int .i64 id] 3)).alloc (.cells #[.int .i64 K, .int .i64 S, xv] 151)).alloc (.cells #[.int .i64 at_] 3)).alloc (.cells #[bv] 38)).alloc (.cells #[.int .i64 K, .int .i64 S2, xv] 151)
theorem boxW_below (w : World) (tb : Nat) (id K S S2 at_ : Int) (xv bv : Value) : Below w.heap.size w (boxW w tb id K S S2 at_ xv bv) := by
  unfold boxW
  exact ((((((Below.refl _ _).alloc (Nat.le_refl _) _).alloc (by simp) _).alloc (by simp; omega) _).alloc (by simp; omega) _).alloc (by simp; omega) _).alloc (by simp; omega) _
theorem boxW_size (w : World) (tb : Nat) (id K S S2 at_ : Int) (xv bv : Value) : (boxW w tb id K S S2 at_ xv bv).heap.size = w.heap.size + 6 := by unfold boxW; simp
theorem boxW_caps (E : TE) (w : World) (id K S S2 at_ : Int) (xv bv : Value) : Caps E w.heap.size (w.heap.size + 2) (w.heap.size + 5) (w.heap.size + 3) (w.heap.size + 4) (w.heap.size + 1) id K S S2 at_ xv xv bv (boxW w E.tb id K S S2 at_ xv bv) := by
  unfold boxW
  have up : ∀ (W : World) (o : Obj) (p : Addr) (v : Value), W.cell? p = some v -> (W.alloc o).cell? p = some v := fun W o p v h => (((Below.refl W.heap.size W).alloc (Nat.le_refl _) o).cell (lt_of_cell h)).trans h
  generalize e1 : w.alloc (.cells #[ptr E.tb] 94) = W1
  have a1 : W1.cell? ⟨w.heap.size, 0, none⟩ = some (ptr E.tb) := by rw [<- e1]; simp
  have s1 : W1.heap.size = w.heap.size + 1 := by rw [<- e1]; simp
  generalize e2 : W1.alloc (.cells #[.int .i64 id] 3) = W2
  have a2 : W2.cell? ⟨w.heap.size + 1, 0, none⟩ = some (.int .i64 id) := by rw [<- e2, <- s1]; simp
  have s2 : W2.heap.size = w.heap.size + 2 := by rw [<- e2]; simp [s1]
  have b1 := up W1 (.cells #[.int .i64 id] 3) _ _ a1
  rw [e2] at b1
  generalize e3 : W2.alloc (.cells #[.int .i64 K, .int .i64 S, xv] 151) = W3
  have a3 : NdAt W3 (w.heap.size + 2) K S xv := by rw [<- e3, <- s2]; exact ⟨by simp, by simp, by simp⟩
  have s3 : W3.heap.size = w.heap.size + 3 := by rw [<- e3]; simp [s2]
  have u3 := up W2 (.cells #[.int .i64 K, .int .i64 S, xv] 151)
  rw [e3] at u3
  generalize e4 : W3.alloc (.cells #[.int .i64 at_] 3) = W4
  have a4 : W4.cell? ⟨w.heap.size + 3, 0, none⟩ = some (.int .i64 at_) := by rw [<- e4, <- s3]; simp
  have s4 : W4.heap.size = w.heap.size + 4 := by rw [<- e4]; simp [s3]
  have u4 := up W3 (.cells #[.int .i64 at_] 3)
  rw [e4] at u4
  generalize e5 : W4.alloc (.cells #[bv] 38) = W5
  have a5 : W5.cell? ⟨w.heap.size + 4, 0, none⟩ = some bv := by rw [<- e5, <- s4]; simp
  have s5 : W5.heap.size = w.heap.size + 5 := by rw [<- e5]; simp [s4]
  have u5 := up W4 (.cells #[bv] 38)
  rw [e5] at u5
  have u6 := up W5 (.cells #[.int .i64 K, .int .i64 S2, xv] 151)
  have hT := heap_alloc_new W5 (.cells #[.int .i64 K, .int .i64 S2, xv] 151)
  refine ⟨u6 _ _ (u5 _ _ (u4 _ _ (u3 _ _ b1))), ⟨u6 _ _ (u5 _ _ (u4 _ _ a3.c0)), u6 _ _ (u5 _ _ (u4 _ _ a3.c1)), u6 _ _ (u5 _ _ (u4 _ _ a3.c2))⟩, ?_, ?_, u6 _ _ (u5 _ _ a4), u6 _ _ a5, u6 _ _ (u5 _ _ (u4 _ _ (u3 _ _ a2))), ?_⟩
  · rw [<- s5]; exact ⟨by simp, by simp, by simp⟩
  · rw [<- s5]; simp
  · rw [<- s5]; exact ⟨_, _, hT⟩
theorem put_any {id K S S2 at_ : Nat} {xa : Option Addr} {xl xc : Nat} {ba : Option Addr} {bl bc : Nat} {e0 : Value} {Q : World -> Prop} (hat : at_ <= 4000) (hbl : bl <= 4000) (hmx : max S (at_ + bl) = S2) (he : e0 = .nilIface \/ e0 = num 15)
    (kW : Calls Tryz.prog 194 #[ptr E.tb, .func (.func 224) #[] #[ptr w.heap.size, ptr (w.heap.size + 2), ptr (w.heap.size + 5), ptr (w.heap.size + 3), ptr (w.heap.size + 4), ptr (w.heap.size + 1)]] (boxW w E.tb id K S S2 at_ (.slice xa xl xc) (.slice ba bl bc)) fun e w' => e = .returned e0 /\ Q w') :
    Calls Tryz.prog 176 #[ptr E.tb, .int .i64 id, nodeV K S (.slice xa xl xc), .int .i64 at_, .slice ba bl bc] w fun e w' => e = .returned e0 /\ Q w' := by
  have hmf : ∀ (fn : Fn) (first cap : Array Value) (w : World), (Instr.makeFunc fn first cap).run Tryz.prog w = .ok (.func fn first cap) w := fun _ _ _ _ => rfl
  have hmx' : max (S : Int) ((at_ : Int) + (bl : Int)) = (S2 : Int) := by omega
  unfold boxW at kW
  replace kW := hidden kW
  go_enter Tryz.func176, Tryz.ntmps176
  go_wp2_with fail
  refine (kW.out).mono ?_
  rintro ev w7 ⟨rfl, hq⟩
  replace hq := hidden hq
  rcases he with rfl | rfl
  all_goals
    go_wp2
    go_ret
    exact ⟨rfl, hq.out⟩
theorem ent_put1 : ∀ (args : Array Value) (w : World), (callFunc 224 args).run Tryz.prog w = .ok (.enter 224 args) w := enters_of Tryz.func224 (by kernel_rfl) rfl
theorem iput_ok {id K S S2 at_ n : Nat} {xv bv : Value} {ks zs : List Int} {base : Nat} {W : World} (h : E.St mem writes M w) (ok : E.Ok) (hah : E.Ahead base) (hW : Apart [E.mb] W w) (hWb : W.heap.size <= base) (hx : Kept base w xv ks) (hbase : base <= w.heap.size)
    (hbv : BytesC E.mb w bv zs) (hbo : ∀ b off l c, bv = .slice (some ⟨b, off, none⟩) l c -> some b ≠ xv.ownBlock) (hid : 1 <= id /\ id <= E.tn) (hmx : max S (at_ + zs.length) = S2) (hn : growb S S2 = n) (hfree : n <= freeN (bitM mem M E.ma) E.ku) (hn5 : n <= 500) (hK : K <= 255) (hS2 : S2 <= 4000) (hlen : ((ks.length + n : Nat) : Int) = blk S2) (hnd : ks.Nodup) (hmine : ∀ z ∈ ks, ∃ i, i < E.k /\ z = E.fr + (i : Int) /\ bitM mem M E.ma i = true) (hst : E.R id /\ (∀ z ∈ ks, ∃ i, (i < E.k /\ E.U i) /\ z = E.fr + (i : Int)) /\ ∀ i, i < E.ku -> bitM mem M E.ma i = false -> E.U i) :
    Calls Tryz.prog 176 #[ptr E.tb, .int .i64 id, nodeV K S xv, .int .i64 at_, bv] w fun e w' => e = .returned .nilIface /\ ∃ l M', l.length = n /\ PutEff E mem M M' (E.ta + id - 1) K S S2 ks l zs at_ /\ E.St mem writes M' w' /\ Apart [E.mb] W w' /\ (∀ b, b < w.heap.size -> b ≠ E.mb -> some b ≠ xv.ownBlock -> w'.heap[b]? = w.heap[b]?) := by
  have hmb := h.lts.2.2.2.2.1
  obtain ⟨xa, xc, hxE, -⟩ := hx.form
  have hbv0 := hbv
  obtain ⟨ba, bc, hbE, -⟩ := hbv0
  have hown : ∀ g, xv.ownBlock = some g -> g < w.heap.size := fun g hg => (hx.row.lt g hg).2
  subst hxE hbE
  refine put_any (w := w) (by omega) (by omega) hmx (Or.inl rfl) ?_
  have hBw := boxW_below w E.tb id K S S2 at_ (.slice xa ks.length xc) (.slice ba zs.length bc)
  have hsw := boxW_size w E.tb id K S S2 at_ (.slice xa ks.length xc) (.slice ba zs.length bc)
  have hcw := boxW_caps E w id K S S2 at_ (.slice xa ks.length xc) (.slice ba zs.length bc)
  refine whole_ok ent_put1 (h.more hBw) ok (fun wx hxx => ?_)
  have hB := hBw.trans (hxx.mono hBw.size)
  have hxs := hxx.size
  refine (put1_ok (hcw.keep (Apart.of_below (bs := []) hxx) (by simp)) (by omega) (by omega) (h.more hB) ok hah (hW.trans (Apart.of_below hB)) hWb (hx.below hB) (by omega) (fun g hg => by have := hown g hg; omega) (fun wy hy hys => ?_) hid hn hfree hn5 hK hS2 (by omega) hlen hnd hmine hst).mono (fun e w' ⟨q0, l, M', q1, q2, q3, q4, q5⟩ => ⟨q0, l, M', q1, q2, q3, q4, fun b b1 b2 b4 => (q5 b (by omega) b2 (by omega) b4).trans (hB.block b b1)⟩)
  obtain ⟨a', c', e', q1, q2, q3, q4, q5⟩ := hbv
  refine ⟨a', c', e', q1, q2, q3, q4, fun hne => ?_⟩
  obtain ⟨b, off, ea, hb, hbm, hk⟩ := q5 hne
  have hbs := hB.size
  refine ⟨b, off, ea, by omega, hbm, fun k hkl => ?_⟩
  have hblk := (hy b (by omega) hbm (by omega) (hbo b off _ _ (by rw [e', ea]))).trans (hB.block b hb)
  exact (World.cell?_of_block (a := ⟨b, off + k, none⟩) hblk).trans (hk k hkl)
end
section
variable {E : TE} {mem : Nat -> Int} {writes : Int} {M : Chg} {w w' : World}
theorem write_none {tb : Nat} {id at_ K S : Int} {ba : Option Addr} {bc : Nat} {l : List Int} (hat : 0 <= at_ /\ at_ <= 4000) (kL : Calls Tryz.prog 174 #[ptr tb, .int .i64 id] w fun e w' => ∃ v, e = .returned (.tuple #[nodeV K S v, .nilIface]) /\ Kept w.heap.size w' v l /\ Below w.heap.size w w') :
    Calls Tryz.prog 125 #[ptr tb, .int .i64 id, .int .i64 at_, .slice ba 0 bc] w fun e w' => e = .returned .nilIface /\ Below w.heap.size w w' := by
  replace kL := hidden kL
  have h0 : ¬ at_ < 0 := by omega
  have h5 : ¬ 4000 < at_ := by omega
  go_enter Tryz.func125, Tryz.ntmps125
  go_wp2_with fail
  refine (kL.out).mono ?_
  rintro ev w1 ⟨v, rfl, hK, hB⟩
  obtain ⟨a, c, rfl, -⟩ := hK.form
  have hE := hidden (hB.alloc hB.size (.cells #[.int .i64 K, .int .i64 S, .slice a l.length c] 151))
  clear hB hK
  go_wp2
  go_ret
  exact ⟨rfl, hE.out⟩
def SameB (b : Nat) (o : Option Obj) (w : World) : Prop := w.heap[b]? = o
theorem write_any {id K S at_ GAP : Nat} {ba : Option Addr} {bl bc : Nat} {ks zs : List Int} {e0 : Value} {Q : World -> Prop} (hat : at_ <= 4000) (hS : S <= 4000) (hbl : at_ + bl <= 4000) (hgap : GAP = at_ - S) (hzl : zs.length = bl) (hz0 : 0 < bl) (hbz : BytesAt w (.slice ba bl bc) zs)
    (kL : Calls Tryz.prog 174 #[ptr E.tb, .int .i64 id] w fun e w' => ∃ v, e = .returned (.tuple #[nodeV K S v, .nilIface]) /\ Kept w.heap.size w' v ks /\ Below w.heap.size w w')
    (hmb : E.mb < w.heap.size)
    (kP : ∀ w5 xv, Below w.heap.size w w5 -> Kept w.heap.size w5 xv ks -> (∀ g, xv.ownBlock = some g -> g < w5.heap.size) -> ∀ w9 v9, Below w5.heap.size w5 w9 -> OwnV w5.heap.size w9 v9 (List.replicate GAP 0 ++ zs) -> Calls Tryz.prog 176 #[ptr E.tb, .int .i64 id, nodeV K S xv, .int .i64 ((min at_ S : Nat) : Int), v9] w9 fun e w' => e = .returned e0 /\ Q w' /\ (∀ b, b < w9.heap.size -> b ≠ E.mb -> some b ≠ xv.ownBlock -> w'.heap[b]? = w9.heap[b]?)) (he : e0 = .nilIface \/ e0 = num 15) :
    Calls Tryz.prog 125 #[ptr E.tb, .int .i64 id, .int .i64 at_, .slice ba bl bc] w fun e w' => e = .returned e0 /\ Q w' := by
  have h0 : ¬ (at_ : Int) < 0 := by omega
  have h5 : ¬ 4000 - (bl : Int) < (at_ : Int) := by omega
  have h6 : ¬ bl = 0 := by omega
  have hg1 : max 0 ((at_ : Int) - (S : Int)) = (GAP : Int) := by omega
  have hg2 : (at_ : Int) - (GAP : Int) = ((min at_ S : Nat) : Int) := by omega
  have hgb : GAP <= 4000 := by omega
  have hw2 : IntKind.i64.wrap (((min at_ S : Nat) : Int)) = ((min at_ S : Nat) : Int) := wrap_pos _ (by omega) (by omega)
  replace kL := hidden kL
  replace kP := hidden kP
  replace hbz := hidden hbz
  generalize (min at_ S : Nat) = AT2 at *
  clear hgap
  go_enter Tryz.func125, Tryz.ntmps125
  go_wp2_with fail
  refine (kL.out).mono ?_
  rintro ev w1 ⟨v, rfl, hK, hB⟩
  obtain ⟨w5, hw5, hB5, hN5⟩ : ∃ w5, w1.alloc (.cells #[.int .i64 K, .int .i64 S, v] 151) = w5 /\ Below w1.heap.size w1 w5 /\ NdAt w5 w1.heap.size K S v := ⟨_, rfl, (Below.refl _ _).alloc (Nat.le_refl _) _, ⟨by simp, by simp, by simp⟩⟩
  have hb1o : some w1.heap.size ≠ v.ownBlock := fun e => absurd (hK.row.lt _ e.symm).2 (Nat.lt_irrefl _)
  have hb1m : w1.heap.size ≠ E.mb := by have := hB.size; omega
  have hob : ∀ g, v.ownBlock = some g -> g < w5.heap.size := fun g hg => Nat.lt_of_lt_of_le (hK.row.lt g hg).2 hB5.size
  have hB05 := hB.trans (hB5.mono hB.size)
  have kP5 := hidden (kP.out w5 v hB05 (hK.below hB5) hob)
  have hbz5 := hbz.out.below hB05
  obtain ⟨a, c, rfl, -⟩ := hK.form
  have n0 := hN5.c0
  have n1 := hN5.c1
  have n2 := hN5.c2
  have hlt5 : w1.heap.size < w5.heap.size := lt_of_cell (a := ⟨w1.heap.size, 0, none⟩) n0
  obtain ⟨OB, hOB⟩ : ∃ OB, OB = w5.heap[w1.heap.size]? := ⟨_, rfl⟩
  replace hOB := hidden hOB
  have kSB := hidden (fun (wx : World) (hx : Below w5.heap.size w5 wx) => show SameB w1.heap.size OB wx from (hx.block _ hlt5).trans hOB.out.symm)
  have kSP := hidden (fun (w9 w10 : World) (h9 : SameB w1.heap.size OB w9) (hf : ∀ b, b < w9.heap.size -> b ≠ E.mb -> some b ≠ (Value.slice a ks.length c).ownBlock -> w10.heap[b]? = w9.heap[b]?) (hB : Below w5.heap.size w5 w9) => show SameB w1.heap.size OB w10 from (hf _ (Nat.lt_of_lt_of_le hlt5 hB.size) hb1m hb1o).trans h9)
  have kN := hidden (fun (wx : World) (hx : SameB w1.heap.size OB wx) => show wx.cell? ⟨w1.heap.size, 0, none⟩ = some (.int .i64 (K : Int)) /\ wx.cell? ⟨w1.heap.size, 1, none⟩ = some (.int .i64 (S : Int)) /\ wx.cell? ⟨w1.heap.size, 2, none⟩ = some (.slice a ks.length c) from ⟨(World.cell?_of_block (w := w5) (a := ⟨w1.heap.size, 0, none⟩) (hx.trans hOB.out)).trans n0, (World.cell?_of_block (w := w5) (a := ⟨w1.heap.size, 1, none⟩) (hx.trans hOB.out)).trans n1, (World.cell?_of_block (w := w5) (a := ⟨w1.heap.size, 2, none⟩) (hx.trans hOB.out)).trans n2⟩)
  have hB7a : Below w5.heap.size w5 (w5.alloc (.cells (Array.replicate GAP (.int .u8 0)) 5)) := (Below.refl _ _).alloc (Nat.le_refl _) _
  have hB7 := hidden (hB7a.trans ((below_drew1 _).mono hB7a.size))
  have hV7 := hidden (((ownB_zero w5 w5.heap.size (Nat.le_refl _) GAP (by omega)).toV).below (below_drew1 _))
  have hbz7 := hidden (hbz5.below hB7.out)
  have hzne : Hid (zs ≠ []) := hidden (by intro e; rw [e] at hzl; simp at hzl; omega)
  have hbl9 : Hid ((List.replicate GAP (0 : Int)).length + zs.length <= 1000000) := hidden (by rw [List.length_replicate]; omega)
  have kF := hidden (fun (wx : World) (vx : Value) (hv : OwnV w5.heap.size wx vx (List.replicate GAP 0 ++ zs)) => show ∃ a L c, vx = .slice a L c from by
    obtain ⟨b, cap, e, -⟩ := hv.form (by intro e; exact hzne.out (List.append_eq_nil_iff.1 e).2)
    exact ⟨_, _, _, e⟩)
  clear hK hB hB5 hN5 hob hB05 hbz5 kL kP hbz
  have hbz := hbz7
  generalize ks.length = KL at *
  go_upto_region 11 with fail
  clear hw5 n0 n1 n2 hB7a
  have hS0 := kSB.out _ (below_drew1 w5)
  rcases he with rfl | rfl
  · refine wp_region_held_drew (S := SameB w1.heap.size OB) (by kernel_rfl) hS0 ?_
    intro _
    refine wpAnyH_take (i := 0) (v := ?_) rfl (by kernel_rfl) (by kernel_rfl) (by kernel_rfl) (fun _ _ _ h => h) (Or.inl ⟨by rfl, ?_⟩) hS0 ?_
    rotate_left
    · intro w hw; clear hw; go_simp; try (with_reducible rfl)
    refine wpAnyH_take (i := 1) (v := ?_) rfl (by kernel_rfl) (by kernel_rfl) (by kernel_rfl) (fun _ _ _ h => h) (Or.inl ⟨by rfl, ?_⟩) hS0 ?_
    rotate_left
    · intro w hw; clear hw; go_simp; try (with_reducible rfl)
    refine wpAnyH_take (i := 2) (v := ?_) rfl (by kernel_rfl) (by kernel_rfl) (by kernel_rfl) (fun _ _ _ h => h) (Or.inl ⟨by rfl, ?_⟩) hS0 ?_
    rotate_left
    · intro w hw; have x0 := kN.out _ hw; have m0 := x0.1; have m1 := x0.2.1; have m2 := x0.2.2; clear x0; clear hw; go_simp; try (with_reducible rfl)
    refine wpAnyH_take (i := 3) (v := ?_) rfl (by kernel_rfl) (by kernel_rfl) (by kernel_rfl) (fun _ _ _ h => h) (Or.inl ⟨by rfl, ?_⟩) hS0 ?_
    rotate_left
    · intro w hw; clear hw; go_simp; try (with_reducible rfl)
    refine wpAnyH_take (i := 4) (v := ?_) rfl (by kernel_rfl) (by kernel_rfl) (by kernel_rfl) (fun _ _ _ h => h) (Or.inl ⟨by rfl, ?_⟩) hS0 ?_
    rotate_left
    · intro w hw; clear hw; go_simp; try (with_reducible rfl)
    refine wpAnyH_take (i := 5) (v := ?_) rfl (by kernel_rfl) (by kernel_rfl) (by kernel_rfl) (fun _ _ _ h => h) (Or.inl ⟨by rfl, ?_⟩) hS0 ?_
    rotate_left
    · intro w hw; clear hw; go_simp; try (with_reducible rfl)
    refine wpAnyH_take (i := 6) (v := ?_) rfl (by kernel_rfl) (by kernel_rfl) (by kernel_rfl) (fun _ _ _ h => h) (Or.inl ⟨by rfl, ?_⟩) hS0 ?_
    rotate_left
    · intro w hw; clear hw; go_simp; try (with_reducible rfl)
    refine wpAnyH_take (i := 8) (v := ?_) rfl (by kernel_rfl) (by kernel_rfl) (by kernel_rfl) (fun _ _ _ h => h) (Or.inl ⟨by rfl, ?_⟩) hS0 ?_
    rotate_left
    · intro w hw; clear hw; go_simp; try (with_reducible rfl)
    refine wpAnyH_ready (rs := [7]) (by kernel_rfl) (by simp) ?_
    refine AllReadyH.cons rfl (fun K hK => ?_) AllReadyH.nil
    have hmk1 : (Instr.makeSlice 38 (.int .i64 (GAP : Int)) (.int .i64 (GAP : Int))).run Tryz.prog w5.drew = .ok (.slice (some ⟨w5.heap.size, 0, none⟩) GAP GAP) (w5.alloc (.cells (Array.replicate GAP (.int .u8 0)) 5)).drew := make_bytes GAP (by omega) w5.drew
    go_simp
    refine hK.out _ _ (kSB.out _ hB7.out) (fun hSn1 => ?_)
    clear hmk1
    clear hK K
    go_simp
    refine wpAnyH_ready (rs := [9]) (by kernel_rfl) (by simp) ?_
    refine AllReadyH.cons rfl (fun K hK => ?_) AllReadyH.nil
    obtain ⟨v9, w9, hr9, hV9, hB9⟩ := ownV_append hV7.out (.slice ba bl bc) zs hbz.out hzne.out hbl9.out hB7.out.size 38
    refine any_append rfl rfl _ _ _ _ rfl rfl hr9 ?_
    refine hK.out _ _ (kSB.out _ (hB7.out.trans hB9)) (fun hSn2 => ?_)
    have hV9' := hidden hV9
    have hB59 := hidden (hB7.out.trans hB9)
    obtain ⟨a9, L9, c9, hv9E⟩ := kF.out _ _ hV9
    subst hv9E
    clear hV9 hr9
    clear hK K
    refine wpAnyH_ready (rs := [10]) (by kernel_rfl) (by simp) ?_
    refine AllReadyH.cons rfl (fun K hK => ?_) AllReadyH.nil
    go_simp
    go_wp2_with (go_at_call 176; refine (kP5.out _ _ hB59.out hV9'.out).mono ?_; rintro ev w10 ⟨rfl, hq, hqf⟩)
    refine hK.out _ _ (kSP.out _ _ hSn2 hqf hB59.out) (fun hSn3 => ?_)
    clear hK K
    refine wpAnyH_ready (rs := [11]) (by kernel_rfl) (by simp) ?_
    refine AllReadyH.cons rfl (fun K hK => ?_) AllReadyH.nil
    go_simp
    refine hK.out _ _ hSn3 (fun _ => ?_)
    clear hK K
    refine wpAnyH_done (by kernel_rfl) ?_ _
    replace hq := hidden hq
    clear hqf
    go_wp2
    go_ret
    exact ⟨rfl, hq.out⟩
  · refine wp_region_held_drew (S := SameB w1.heap.size OB) (by kernel_rfl) hS0 ?_
    intro _
    refine wpAnyH_take (i := 0) (v := ?_) rfl (by kernel_rfl) (by kernel_rfl) (by kernel_rfl) (fun _ _ _ h => h) (Or.inl ⟨by rfl, ?_⟩) hS0 ?_
    rotate_left
    · intro w hw; clear hw; go_simp; try (with_reducible rfl)
    refine wpAnyH_take (i := 1) (v := ?_) rfl (by kernel_rfl) (by kernel_rfl) (by kernel_rfl) (fun _ _ _ h => h) (Or.inl ⟨by rfl, ?_⟩) hS0 ?_
    rotate_left
    · intro w hw; clear hw; go_simp; try (with_reducible rfl)
    refine wpAnyH_take (i := 2) (v := ?_) rfl (by kernel_rfl) (by kernel_rfl) (by kernel_rfl) (fun _ _ _ h => h) (Or.inl ⟨by rfl, ?_⟩) hS0 ?_
    rotate_left
    · intro w hw; have x0 := kN.out _ hw; have m0 := x0.1; have m1 := x0.2.1; have m2 := x0.2.2; clear x0; clear hw; go_simp; try (with_reducible rfl)
    refine wpAnyH_take (i := 3) (v := ?_) rfl (by kernel_rfl) (by kernel_rfl) (by kernel_rfl) (fun _ _ _ h => h) (Or.inl ⟨by rfl, ?_⟩) hS0 ?_
    rotate_left
    · intro w hw; clear hw; go_simp; try (with_reducible rfl)
    refine wpAnyH_take (i := 4) (v := ?_) rfl (by kernel_rfl) (by kernel_rfl) (by kernel_rfl) (fun _ _ _ h => h) (Or.inl ⟨by rfl, ?_⟩) hS0 ?_
    rotate_left
    · intro w hw; clear hw; go_simp; try (with_reducible rfl)
    refine wpAnyH_take (i := 5) (v := ?_) rfl (by kernel_rfl) (by kernel_rfl) (by kernel_rfl) (fun _ _ _ h => h) (Or.inl ⟨by rfl, ?_⟩) hS0 ?_
    rotate_left
    · intro w hw; clear hw; go_simp; try (with_reducible rfl)
    refine wpAnyH_take (i := 6) (v := ?_) rfl (by kernel_rfl) (by kernel_rfl) (by kernel_rfl) (fun _ _ _ h => h) (Or.inl ⟨by rfl, ?_⟩) hS0 ?_
    rotate_left
    · intro w hw; clear hw; go_simp; try (with_reducible rfl)
    refine wpAnyH_take (i := 8) (v := ?_) rfl (by kernel_rfl) (by kernel_rfl) (by kernel_rfl) (fun _ _ _ h => h) (Or.inl ⟨by rfl, ?_⟩) hS0 ?_
    rotate_left
    · intro w hw; clear hw; go_simp; try (with_reducible rfl)
    refine wpAnyH_ready (rs := [7]) (by kernel_rfl) (by simp) ?_
    refine AllReadyH.cons rfl (fun K hK => ?_) AllReadyH.nil
    have hmk1 : (Instr.makeSlice 38 (.int .i64 (GAP : Int)) (.int .i64 (GAP : Int))).run Tryz.prog w5.drew = .ok (.slice (some ⟨w5.heap.size, 0, none⟩) GAP GAP) (w5.alloc (.cells (Array.replicate GAP (.int .u8 0)) 5)).drew := make_bytes GAP (by omega) w5.drew
    go_simp
    refine hK.out _ _ (kSB.out _ hB7.out) (fun hSn1 => ?_)
    clear hmk1
    clear hK K
    go_simp
    refine wpAnyH_ready (rs := [9]) (by kernel_rfl) (by simp) ?_
    refine AllReadyH.cons rfl (fun K hK => ?_) AllReadyH.nil
    obtain ⟨v9, w9, hr9, hV9, hB9⟩ := ownV_append hV7.out (.slice ba bl bc) zs hbz.out hzne.out hbl9.out hB7.out.size 38
    refine any_append rfl rfl _ _ _ _ rfl rfl hr9 ?_
    refine hK.out _ _ (kSB.out _ (hB7.out.trans hB9)) (fun hSn2 => ?_)
    have hV9' := hidden hV9
    have hB59 := hidden (hB7.out.trans hB9)
    obtain ⟨a9, L9, c9, hv9E⟩ := kF.out _ _ hV9
    subst hv9E
    clear hV9 hr9
    clear hK K
    refine wpAnyH_ready (rs := [10]) (by kernel_rfl) (by simp) ?_
    refine AllReadyH.cons rfl (fun K hK => ?_) AllReadyH.nil
    go_simp
    go_wp2_with (go_at_call 176; refine (kP5.out _ _ hB59.out hV9'.out).mono ?_; rintro ev w10 ⟨rfl, hq, hqf⟩)
    refine hK.out _ _ (kSP.out _ _ hSn2 hqf hB59.out) (fun hSn3 => ?_)
    clear hK K
    refine wpAnyH_ready (rs := [11]) (by kernel_rfl) (by simp) ?_
    refine AllReadyH.cons rfl (fun K hK => ?_) AllReadyH.nil
    go_simp
    refine hK.out _ _ hSn3 (fun _ => ?_)
    clear hK K
    refine wpAnyH_done (by kernel_rfl) ?_ _
    replace hq := hidden hq
    clear hqf
    go_wp2
    go_ret
    exact ⟨rfl, hq.out⟩
end
structure ISees (f : FuncId) (caps : Array Value) (tb tn : Nat) (K S : Nat -> Int) (I Ex : Nat -> World -> Prop) : Prop where
  few : tn <= 1000
  ent : ∀ (args : Array Value) (w : World), (callFunc f args).run Tryz.prog w = .ok (.enter f args) w
  more : ∀ j w w', I j w -> Below w.heap.size w w' -> I j w'
  cell : ∀ j w, I j w -> w.cell? ⟨tb, 3, none⟩ = some (.int .i64 tn)
  recd : ∀ j w, 1 <= j -> j <= tn -> I j w -> Calls Tryz.prog 165 #[ptr tb, .int .i64 j] w fun e w' => ∃ v l, e = .returned (.tuple #[nodeV (K j) (S j) v, .nilIface]) /\ Kept w.heap.size w' v l /\ Below w.heap.size w w'
  call : ∀ j w a L c, 1 <= j -> j <= tn -> I j w -> Calls Tryz.prog f (#[.int .i64 j, nodeV (K j) (S j) (.slice a L c)] ++ caps) w fun e w' => (e = .returned (.bool true) /\ I (j + 1) w') \/ (e = .returned (.bool false) /\ Ex j w')
theorem iwalk_calls {f : FuncId} {caps : Array Value} {tb tn : Nat} {K S : Nat -> Int} {I Ex : Nat -> World -> Prop} (hs : ISees f caps tb tn K S I Ex) (w : World) (h0 : I 1 w) :
    Calls Tryz.prog 112 #[ptr tb, .func (.func f) #[] caps] w fun e w' => e = .returned .nilIface /\ (I (tn + 1) w' \/ ∃ j, 1 <= j /\ j <= tn /\ Ex j w') := by
  have hk := hs.few
  have hent := hs.ent
  replace hs := hidden hs
  go_enter Tryz.func112, Tryz.ntmps112
  go_wp2_with fail
  go_loopg [5] (tn + 1) (fun gk q wr => ∃ j : Nat, 1 <= j /\ j <= tn + 1 /\ gk + j = tn + 2 /\ q = .int .i64 j /\ Hid (I j wr))
  case atStart => exact ⟨1, by omega, by omega, by omega, rfl, hidden h0⟩
  case round =>
    obtain ⟨j, hj1, hj, hgk, rfl, hI⟩ := hrel
    replace hgk := hidden hgk
    have c3 := hs.out.cell _ _ hI.out
    have hltb : tb < wr.heap.size := lt_of_cell (a := ⟨tb, 3, none⟩) c3
    by_cases hlt : j <= tn
    · have hR := hidden (hs.out.recd j _ hj1 hlt hI.out)
      go_wp2_with fail
      refine (hR.out).mono ?_
      rintro ev w2 ⟨v, l, rfl, hK, hB2⟩
      obtain ⟨a, c, rfl, -⟩ := hK.form
      have hI2 := hs.out.more _ _ _ hI.out hB2
      have hB3 : Below w2.heap.size w2 (w2.alloc (.cells #[.int .i64 (K j), .int .i64 (S j), .slice a l.length c] 151)) := (Below.refl _ _).alloc (Nat.le_refl _) _
      have hC := hidden (hs.out.call j _ a l.length c hj1 hlt (hs.out.more _ _ _ hI2 hB3))
      clear hK hB2 hR hI hB3 hI2 c3
      generalize l.length = LL at *
      generalize K j = KK at *
      generalize S j = SS at *
      go_wp2_with fail
      refine (hC.out).mono ?_
      rintro ev w4 (⟨rfl, hI4⟩ | ⟨rfl, hE4⟩)
      · replace hI4 := hidden hI4
        clear hC
        go_wp2
        go_roundg (tn + 2 - (j + 1))
        case measure => have := hgk.out; omega
        case rel => exact ⟨j + 1, by omega, by omega, by have := hgk.out; omega, by go_num, hI4⟩
      · replace hE4 := hidden hE4
        clear hC
        go_wp2
        go_ret
        exact ⟨rfl, Or.inr ⟨j, hj1, hlt, hE4.out⟩⟩
    · obtain rfl : j = tn + 1 := by omega
      go_wp2
      go_ret
      exact ⟨rfl, Or.inl hI.out⟩
theorem ileast1_calls {W w : World} {p : Nat} {j KK SS : Int} {a : Option Addr} {L c : Nat} (hj : ¬ j = 0) (h : Going W p (.int .i64 0) w) :
    Calls Tryz.prog 213 #[.int .i64 j, nodeV KK SS (.slice a L c), ptr p] w fun e w' => e = .returned (.bool (decide (¬ KK = 0))) /\ Going W p (if KK = 0 then .int .i64 j else .int .i64 0) w' := by
  have hc := h.cell
  have hf := h.free
  have hlt : p < w.heap.size := lt_of_cell hc
  have hB : Below w.heap.size w (w.alloc (.cells #[.int .i64 KK, .int .i64 SS, .slice a L c] 151)) := (Below.refl _ _).alloc (Nat.le_refl _) _
  have hG := hidden (h.more hB)
  have hc2 := hG.out.cell
  have hf2 := hG.out.free
  have h0 := hidden h
  clear h
  by_cases hK : KK = 0
  · subst hK
    have hs := hidden ((h0.out.set (.int .i64 j)).more ((Below.refl _ _).alloc (Nat.le_refl _) (.cells #[.int .i64 0, .int .i64 SS, .slice a L c] 151)))
    go_enter Tryz.func213, Tryz.ntmps213
    go_wp2
    go_ret
    exact ⟨by simp [hj], by simpa using hs.out⟩
  · go_enter Tryz.func213, Tryz.ntmps213
    go_wp2
    go_ret
    exact ⟨by simp, hG.out⟩
section
variable {E : TE} {mem : Nat -> Int} {writes : Int} {M : Chg} {w w' : World}
def TE.Says (E : TE) (mem : Nat -> Int) (M : Chg) (N : Nat -> Nd) : Prop := ∀ id, 1 <= id -> id <= E.tn -> (N id).ok /\ nowM mem M (E.ta + id - 1) = recL (N id).kind (N id).size (N id).list
theorem TE.St.record (h : E.St mem writes M w) (ok : E.Ok) {N : Nat -> Nd} (hN : E.Says mem M N) (id : Nat) (h1 : 1 <= id) (h2 : id <= E.tn) :
    Calls Tryz.prog 165 #[ptr E.tb, .int .i64 id] w fun e w' => ∃ v, e = .returned (.tuple #[nodeV (N id).kind (N id).size v, .nilIface]) /\ Kept w.heap.size w' v ((N id).list.take 9) /\ Below w.heap.size w w' := by
  obtain ⟨l1, l2⟩ := ok.rlow id h1 h2
  exact record_calls h.c ok.live h.t (by have := ok.tn; omega) (by have := ok.ta; omega) id h1 h2 l1 l2 (hN id h1 h2).1 (hN id h1 h2).2
theorem ileast_sees (h : E.St mem writes M w) (ok : E.Ok) {N : Nat -> Nd} (hN : E.Says mem M N) (p : Nat) :
    ISees 213 #[ptr p] E.tb E.tn (fun j => (N j).kind) (fun j => (N j).size) (fun j wx => Going w p (.int .i64 0) wx /\ ∀ i, 1 <= i -> i < j -> (N i).kind ≠ 0) (fun j wx => Going w p (.int .i64 j) wx /\ (N j).kind = 0 /\ ∀ i, 1 <= i -> i < j -> (N i).kind ≠ 0) where
  few := by have := ok.tn; omega
  ent := enters_of Tryz.func213 (by kernel_rfl) rfl
  more := fun j wx wy hI hb => ⟨hI.1.more hb, hI.2⟩
  cell := fun j wx hI => (h.t.below hI.1.below).c3
  recd := fun j wx h1 h2 hI => ((h.more hI.1.below).record ok hN j h1 h2).mono fun e wy ⟨v, q1, q2, q3⟩ => ⟨v, _, q1, q2, q3⟩
  call := fun j wx a L c h1 h2 hI => by
    refine (ileast1_calls (j := (j : Int)) (KK := ((N j).kind : Int)) (by omega) hI.1).mono ?_
    rintro e wy ⟨rfl, hG⟩
    by_cases hk : (N j).kind = 0
    · rw [if_pos (by omega)] at hG
      exact Or.inr ⟨by simp [hk], hG, hk, hI.2⟩
    · rw [if_neg (by omega)] at hG
      refine Or.inl ⟨by simp [hk], hG, fun i hi1 hi2 => ?_⟩
      rcases Nat.lt_succ_iff_lt_or_eq.1 hi2 with hlt | rfl
      · exact hI.2 i hi1 hlt
      · exact hk
theorem ileast_calls (h : E.St mem writes M w) (ok : E.Ok) {N : Nat -> Nd} (hN : E.Says mem M N) :
    Calls Tryz.prog 169 #[ptr E.tb] w fun e w' => Below w.heap.size w w' /\ ((∃ id : Nat, 1 <= id /\ id <= E.tn /\ e = .returned (.tuple #[.int .i64 id, .nilIface]) /\ (N id).kind = 0 /\ ∀ i, 1 <= i -> i < id -> (N i).kind ≠ 0) \/ (e = .returned (.tuple #[.int .i64 0, num 16]) /\ ∀ id, 1 <= id -> id <= E.tn -> (N id).kind ≠ 0)) := by
  have hmf : ∀ (fn : Fn) (first cap : Array Value) (w : World), (Instr.makeFunc fn first cap).run Tryz.prog w = .ok (.func fn first cap) w := fun _ _ _ _ => rfl
  have hG0 : Going w w.heap.size (.int .i64 0) (w.alloc (.cells #[.int .i64 0] 3)) := ⟨by simp, by simp, Nat.le_refl _, (Below.refl _ _).alloc (Nat.le_refl _) _⟩
  have hW := hidden (iwalk_calls (ileast_sees h ok hN w.heap.size) _ ⟨hG0, fun i h1 h2 => absurd h1 (by omega)⟩)
  clear h ok hG0
  go_enter Tryz.func169, Tryz.ntmps169
  go_wp2_with fail
  refine (hW.out).mono ?_
  rintro ev w1 ⟨rfl, (⟨hG1, hb1⟩ | ⟨i, hi1, hi2, hG1, hk, hb1⟩)⟩
  · have c1 := hG1.cell
    have hB1 := hidden hG1.below
    replace hb1 := hidden hb1
    clear hG1 hW
    go_wp2
    go_ret2
    exact ⟨hB1.out, Or.inr ⟨rfl, fun id h1 h2 => hb1.out id h1 (by omega)⟩⟩
  · have c1 := hG1.cell
    have hB1 := hidden hG1.below
    replace hb1 := hidden hb1
    replace hk := hidden hk
    have hne : ¬ (i : Int) = 0 := by omega
    clear hG1 hW
    go_wp2
    go_ret2
    exact ⟨hB1.out, Or.inl ⟨i, hi1, hi2, rfl, hk.out, hb1.out⟩⟩
end
section
variable {E : TE} {mem : Nat -> Int} {writes : Int} {M : Chg} {w w' : World}
theorem make_calls (h : E.St mem writes M w) (ok : E.Ok) {N : Nat -> Nd} (hN : E.Says mem M N) (kind : Nat) (hk : kind = 1 \/ kind = 2) (id : Nat) (h1 : 1 <= id) (h2 : id <= E.tn) (hfree : (N id).kind = 0) (hlow : ∀ i, 1 <= i -> i < id -> (N i).kind ≠ 0) (hR : E.R id) :
    Calls Tryz.prog 121 #[ptr E.tb, .int .i64 kind] w fun e w' => e = .returned (.tuple #[.int .i64 id, .nilIface]) /\ ∃ M', (∀ no, nowM mem M' no = if no = E.ta + id - 1 then recL kind 0 [] else nowM mem M no) /\ E.St mem writes M' w' /\ Apart [E.mb] w w' := by
  have kL := hidden (ileast_calls h ok hN)
  have hst := hidden h
  have htn := ok.tn
  have hta := ok.ta
  have hlt := h.t.lt
  have kt0 := hidden (fun (wx : World) (hx : Apart [E.mb] w wx) => (hx.cell (p := ⟨E.tb, 0, none⟩) hlt (by simpa using ok.tbm)).trans h.t.c0)
  have hun : Hid (∀ j, 1 <= j -> (N j).kind = 0 -> (∀ i, 1 <= i -> i < j -> (N i).kind ≠ 0) -> j = id) := hidden (fun j hj hk hl => by
    rcases Nat.lt_trichotomy j id with hlt | rfl | hgt
    · exact absurd hk (hlow j hj hlt)
    · rfl
    · exact absurd hfree (hl id h1 hgt))
  have hex : Hid (¬ ∀ j, 1 <= j -> j <= E.tn -> (N j).kind ≠ 0) := hidden (fun hh => hh id h1 h2 hfree)
  replace ok := hidden ok
  have hkb : (kind : Int) = 1 \/ (kind : Int) = 2 := by omega
  have hk255 : kind <= 255 := by omega
  clear h hN hk
  obtain ⟨K, hK⟩ : ∃ K : Int, (kind : Int) = K := ⟨_, rfl⟩
  rw [hK] at hkb ⊢
  rcases hkb with rfl | rfl
  all_goals
    go_enter Tryz.func121, Tryz.ntmps121
    go_wp2_with fail
    refine (kL.out).mono ?_
    rintro ev w1 ⟨hB1, (⟨j, i1, i2, rfl, hjk, hjl⟩ | ⟨rfl, hno⟩)⟩
    · obtain rfl := hun.out j i1 hjk hjl
      have hS1 := hst.out.more hB1
      have hA1 := hidden (Apart.of_below (bs := [E.mb]) hB1)
      have hAd := hidden (hA1.out.trans (Apart.of_below (below_drew1 w1)))
      have hSd := hS1.more (below_drew1 w1)
      have tc1 := hS1.t.c0
      have hltb := hS1.t.lt
      have kHm := hidden (ihome_calls hSd.t j i1 (by omega) (by omega))
      have kWr := iwritten_calls (w := w1.drew) kind 0 hk255 (by omega) (v := .slice none 0 0) (ks := []) ⟨none, 0, rfl, by simp, by decide, fun _ => rfl, fun e => absurd rfl e⟩ (fun z hz => by cases hz)
      rw [hK] at kWr
      replace kWr := hidden kWr
      have kC1 := hidden (fun (wx : World) (hx : Below w1.drew.heap.size w1.drew wx) (b : Nat) (hb : OwnB w1.drew.heap.size wx b 128 128 (recL kind 0 [])) => show Calls Tryz.prog 170 #[ptr E.cb, .int .i64 ((E.ta + j - 1 : Nat) : Int), .int .i64 0, .slice (some ⟨b, 0, none⟩) 128 128] wx fun e w' => e = .returned .nilIface /\ ∃ M', E.St mem writes M' w' /\ Apart [E.mb] wx w' /\ ∀ i, nowM mem M' i = if i = E.ta + j - 1 then recL kind 0 [] else nowM mem M i from by
        have hr := recL_row (size := 0) hk255 (by omega) []
        refine ((hSd.more hx).write ok.out (ok.out.recs j i1 i2 hR) 0 _ _ hb.bytes (by rw [hr.1]; omega)).mono ?_
        rintro e w' ⟨rfl, M', q1, q2, q3⟩
        refine ⟨rfl, M', q1, q2, fun i => ?_⟩
        rw [q3 i]
        congr 1
        unfold layL
        rw [List.take_zero, List.nil_append, Nat.zero_add, hr.1, List.drop_of_length_le (by rw [((hSd.more hx).row _).1]; omega), List.append_nil])
      obtain ⟨RR, hRR⟩ : ∃ RR, RR = recL kind 0 [] := ⟨_, rfl⟩
      obtain ⟨REC, hREC⟩ : ∃ REC, REC = E.ta + j - 1 := ⟨_, rfl⟩
      rw [<- hRR] at kWr kC1
      rw [<- hREC] at kHm kC1
      replace hRR := hidden hRR
      replace hREC := hidden hREC
      clear hS1 hSd hjk hjl hB1 hst kL hun hex hfree hlow
      have hjne : (j : Int) <= 200 := by omega
      go_upto_region 6 with fail
      go_cut [8] (fun p wx => p = .nilIface /\ ∃ M', E.St mem writes M' wx /\ Apart [E.mb] w wx /\ ∀ i, nowM mem M' i = if i = REC then RR else nowM mem M i)
      case first =>
        have hS0 := hAd.out
        refine wp_region_held_drew (S := fun w' => Apart [E.mb] w w') (by kernel_rfl) hS0 ?_
        intro _
        refine wpAnyH_take (i := 0) (v := ?_) rfl (by kernel_rfl) (by kernel_rfl) (by kernel_rfl) (fun _ _ _ h => h) (Or.inl ⟨by rfl, ?_⟩) hS0 ?_
        rotate_left
        · intro w hw; clear hw; go_simp; try (with_reducible rfl)
        refine wpAnyH_take (i := 1) (v := ?_) rfl (by kernel_rfl) (by kernel_rfl) (by kernel_rfl) (fun _ _ _ h => h) (Or.inl ⟨by rfl, ?_⟩) hS0 ?_
        rotate_left
        · intro w hw; clear hw; go_simp; try (with_reducible rfl)
        refine wpAnyH_take (i := 2) (v := ?_) rfl (by kernel_rfl) (by kernel_rfl) (by kernel_rfl) (fun _ _ _ h => h) (Or.inl ⟨by rfl, ?_⟩) hS0 ?_
        rotate_left
        · intro w hw; clear hw; go_simp; try (with_reducible rfl)
        refine wpAnyH_take (i := 3) (v := ?_) rfl (by kernel_rfl) (by kernel_rfl) (by kernel_rfl) (fun _ _ _ h => h) (Or.inl ⟨by rfl, ?_⟩) hS0 ?_
        rotate_left
        · intro w hw; have tcx := kt0.out _ hw; clear hw; go_simp; try (with_reducible rfl)
        refine wpAnyH_take (i := 4) (v := ?_) rfl (by kernel_rfl) (by kernel_rfl) (by kernel_rfl) (fun _ _ _ h => h) (Or.inl ⟨by rfl, ?_⟩) hS0 ?_
        rotate_left
        · intro w hw; clear hw; go_simp; try (with_reducible rfl)
        refine wpAnyH_take (i := 5) (v := ?_) rfl (by kernel_rfl) (by kernel_rfl) (by kernel_rfl) (fun _ _ _ h => h) (Or.inl ⟨by rfl, ?_⟩) hS0 ?_
        rotate_left
        · intro w hw; clear hw; go_simp; try (with_reducible rfl)
        refine wpAnyH_take (i := 7) (v := ?_) rfl (by kernel_rfl) (by kernel_rfl) (by kernel_rfl) (fun _ _ _ h => h) (Or.inl ⟨by rfl, ?_⟩) hS0 ?_
        rotate_left
        · intro w hw; clear hw; go_simp; try (with_reducible rfl)
        refine wpAnyH_take (i := 8) (v := ?_) rfl (by kernel_rfl) (by kernel_rfl) (by kernel_rfl) (fun _ _ _ h => h) (Or.inl ⟨by rfl, ?_⟩) hS0 ?_
        rotate_left
        · intro w hw; clear hw; go_simp; try (with_reducible rfl)
        refine wpAnyH_ready (rs := [6]) (by kernel_rfl) (by simp) ?_
        refine AllReadyH.cons rfl (fun K hK => ?_) AllReadyH.nil
        go_simp
        go_wp2_with (go_at_call 171; refine (kHm.out).mono ?_; rintro ev w5 ⟨rfl, rfl⟩)
        refine hK.out _ _ hS0 (fun _ => ?_)
        clear hK K
        refine wpAnyH_ready (rs := [9]) (by kernel_rfl) (by simp) ?_
        refine AllReadyH.cons rfl (fun K hK => ?_) AllReadyH.nil
        go_simp
        go_wp2_with (go_at_call 172; refine (kWr.out).mono ?_; rintro ev w6 ⟨b6, rfl, hO6, hB6⟩)
        refine hK.out _ _ (hS0.trans (Apart.of_below hB6)) (fun hSn1 => ?_)
        clear hK K
        refine wpAnyH_ready (rs := [10]) (by kernel_rfl) (by simp) ?_
        refine AllReadyH.cons rfl (fun K hK => ?_) AllReadyH.nil
        go_simp
        go_wp2_with (go_at_call 170; refine (kC1.out _ hB6 _ hO6).mono ?_; rintro ev w7 ⟨rfl, M7, q1, q2, q3⟩)
        refine hK.out _ _ (hSn1.trans q2) (fun hSn2 => ?_)
        clear hK K
        refine wpAnyH_ready (rs := [11]) (by kernel_rfl) (by simp) ?_
        refine AllReadyH.cons rfl (fun K hK => ?_) AllReadyH.nil
        go_simp
        refine hK.out _ _ hSn2 (fun _ => ?_)
        clear hK K
        refine wpAnyH_done (by kernel_rfl) ?_ _
        have hE7 := hidden (And.intro q1 (And.intro hSn2 q3))
        clear q1 q2 q3 hO6 hB6
        go_wp2
        go_meet
        case rel => exact ⟨rfl, M7, hE7.out⟩
      case rest =>
        obtain ⟨rfl, M', s1, s2, s3⟩ := hcut
        rw [hRR.out, hREC.out] at s3
        have hE := hidden (And.intro s3 (And.intro s1 s2))
        clear s1 s2 s3
        go_wp2
        go_ret2
        exact ⟨rfl, M', hE.out⟩
    · exact absurd hno hex.out
end
end Go.Proofs.YtpofmiecjkghgaaGreatDoor
