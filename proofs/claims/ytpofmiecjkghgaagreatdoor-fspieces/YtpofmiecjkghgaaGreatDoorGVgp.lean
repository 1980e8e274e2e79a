/- What a cut makes of the inodes. -/
import Derived.Test.YtpofmiecjkghgaaGreatDoorGVfp
import Derived.Test.YtpofmiecjkghgaaGreatDoorGVdp
namespace Go.Proofs.YtpofmiecjkghgaaGreatDoor
open Go.RowKit Go.Extern.Stop Go.Stop Go.Extern Go.Maps Go.Sort Go.Shelf
set_option maxRecDepth 100000
set_option maxHeartbeats 12000000
section
variable {E : TE} {mem : Nat -> Int} {M : Chg} {N : Nat -> Nd} {D : Nat -> List Int}
theorem Ino.shrink (h : Ino E mem M N D) (ok : E.Ok) {M6 M' : Chg} {id : Nat} (h1 : 1 <= id) (h2 : id <= E.tn) (hk : (N id).kind = 1 \/ (N id).kind = 2) {S2 keep : Nat} (hS : S2 < (N id).size) (hkp : (keep : Int) = blk S2)
    (hs : Settled mem M M6 (E.ta + id - 1) (N id).kind S2 ((N id).list.take keep) (N id).list.length) (hG : E.Gave mem M6 M' ((N id).list.drop keep)) :
    Ino E mem M' (upd N id ⟨(N id).kind, S2, (N id).list.take keep⟩) (upd D id ((D id).take S2)) := by
  have hxo := (h.says id h1 h2).1
  have hlen0 := hxo.2.2.1
  have hsz0 := hxo.2.1
  have hge : blk (S2 : Int) <= blk ((N id).size : Int) := by unfold blk; split <;> split <;> (try split) <;> (try split) <;> (try split) <;> (try split) <;> omega
  generalize hks : (N id).list = ks at *
  generalize hSz : (N id).size = S at *
  generalize hKd : (N id).kind = K at *
  have hkl : (ks.take keep).length = keep := by rw [List.length_take]; omega
  have hmine0 : ∀ z ∈ ks, ∃ i, i < E.k /\ z = E.fr + (i : Int) /\ bitM mem M E.ma i = true := by
    intro z hz; rw [<- hks] at hz; exact h.mine id h1 h2 z hz
  have hndk : ks.Nodup := by have := h.nodup id h1 h2; rw [hks] at this; exact this
  have hndT : (ks.take keep).Nodup := hndk.sublist (List.take_sublist _ _)
  have hpos : ∀ z ∈ ks.take keep, 0 <= z := fun z hz => by obtain ⟨j, j1, j2, -⟩ := hmine0 z (List.mem_of_mem_take hz); omega
  -- what is kept from M to M6 and to M'
  have keep6 : ∀ no, no ≠ E.ta + id - 1 -> (9 < keep -> no ≠ ((ks.take keep).getD 8 0).toNat) -> nowM mem M6 no = nowM mem M no := fun no q1 q2 => by
    rw [hs no, if_neg q1, if_neg (fun hh => q2 (by omega) hh.2.2)]
  have keepH : ∀ no, (∀ i, i < E.k -> no ≠ homeA E.ma i) -> nowM mem M' no = nowM mem M6 no := fun no q => hG.same no q
  have hbit6 : ∀ i, i < E.k -> bitM mem M6 E.ma i = bitM mem M E.ma i := fun i hi => bit_same (keep6 _ (ok.hr i id hi h1 h2) (fun h9 e => by
    obtain ⟨j, j1, j2, -⟩ := hmine0 _ (List.mem_of_mem_take (getD_mem (show 8 < (ks.take keep).length by omega)))
    exact ok.hd i j hi j1 (by omega)))
  have hdrop : ∀ z ∈ ks.take keep, z ∉ ks.drop keep := fun z hz hd => by
    have hn := hndk
    rw [<- List.take_append_drop keep ks] at hn
    exact (List.nodup_append.1 hn).2.2 z hz z hd rfl
  have hothD : ∀ b, 1 <= b -> b <= E.tn -> b ≠ id -> ∀ z ∈ (N b).list, z ∉ ks := fun b b1 b2 hb z hz hm => h.apart b id b1 b2 h1 h2 hb z hz (by rw [hks]; exact hm)
  have hzH : ∀ b, 1 <= b -> b <= E.tn -> ∀ z ∈ (N b).list, ∀ i, i < E.k -> z.toNat ≠ homeA E.ma i := fun b b1 b2 z hz i hi e => by
    obtain ⟨j, j1, j2, -⟩ := h.mine b b1 b2 z hz
    exact ok.hd i j hi j1 (by omega)
  have hzR : ∀ b, 1 <= b -> b <= E.tn -> ∀ z ∈ (N b).list, z.toNat ≠ E.ta + id - 1 := fun b b1 b2 z hz e => by
    obtain ⟨j, j1, j2, -⟩ := h.mine b b1 b2 z hz
    exact ok.dr j id j1 h1 h2 (by omega)
  have hother : ∀ b, 1 <= b -> b <= E.tn -> b ≠ id -> ∀ z ∈ (N b).list, nowM mem M' z.toNat = nowM mem M z.toNat := fun b b1 b2 hb z hz => by
    rw [keepH _ (hzH b b1 b2 z hz), keep6 _ (hzR b b1 b2 z hz) (fun h9 e => by
      have hm := List.mem_of_mem_take (getD_mem (show 8 < (ks.take keep).length by omega))
      obtain ⟨i, i1, i2, -⟩ := hmine0 _ hm
      obtain ⟨j, j1, j2, -⟩ := h.mine b b1 b2 z hz
      have : z = (ks.take keep).getD 8 0 := by omega
      exact hothD b b1 b2 hb z hz (by rw [this]; exact hm))]
  have hown : ∀ z ∈ ks, z ∈ (N id).list := fun z hz => by rw [hks]; exact hz
  have hbit' : ∀ i, i < E.k -> ∀ z : Int, z = E.fr + (i : Int) -> z ∉ ks.drop keep -> bitM mem M E.ma i = true -> bitM mem M' E.ma i = true := fun i hi z hz hn hb => by
    rw [hG.bits i hi, hbit6 i hi, hb, decide_eq_false (by rw [show ((E.fr + i : Nat) : Int) = z by omega]; exact hn)]
    rfl
  have hgetT : ∀ q, q < keep -> (ks.take keep).getD q 0 = ks.getD q 0 := fun q hq => by
    rw [List.getD_eq_getElem?_getD, List.getElem?_take, if_pos hq, <- List.getD_eq_getElem?_getD]
  refine ⟨fun b b1 b2 => ?_, fun b b1 b2 => ?_, fun b b1 b2 z hz => ?_, fun a b a1 a2 b1 b2 hab z hz => ?_, fun b b1 b2 h9 => ?_, fun b b1 b2 => ?_⟩
  · by_cases hb : b = id
    · subst hb
      rw [upd_same]
      refine ⟨⟨Or.inr hk, by show S2 <= 4000; omega, by show (((ks.take keep).length : Nat) : Int) = blk S2; omega, fun z hz => ?_⟩, ?_⟩
      · obtain ⟨i, i1, i2, -⟩ := hmine0 z (List.mem_of_mem_take hz)
        have := ok.fr
        omega
      · rw [keepH _ (fun i hi e => ok.hr i b hi h1 h2 e.symm), hs, if_pos rfl]
    · rw [upd_other _ _ hb]
      refine ⟨(h.says b b1 b2).1, ?_⟩
      rw [keepH _ (fun i hi e => ok.hr i b hi b1 b2 e.symm), keep6 _ (by omega) (fun h9 e => by
        obtain ⟨i, i1, i2, -⟩ := hmine0 _ (List.mem_of_mem_take (getD_mem (show 8 < (ks.take keep).length by omega)))
        exact ok.dr i b i1 b1 b2 (by omega))]
      exact (h.says b b1 b2).2
  · by_cases hb : b = id
    · subst hb; rw [upd_same]; exact hndT
    · rw [upd_other _ _ hb]; exact h.nodup b b1 b2
  · by_cases hb : b = id
    · subst hb
      rw [upd_same] at hz
      obtain ⟨i, i1, i2, i3⟩ := hmine0 z (List.mem_of_mem_take hz)
      exact ⟨i, i1, i2, hbit' i i1 z i2 (hdrop z hz) i3⟩
    · rw [upd_other _ _ hb] at hz
      obtain ⟨i, i1, i2, i3⟩ := h.mine b b1 b2 z hz
      exact ⟨i, i1, i2, hbit' i i1 z i2 (fun hm => hothD b b1 b2 hb z hz (List.mem_of_mem_drop hm)) i3⟩
  · by_cases ha : a = id
    · subst ha
      rw [upd_same] at hz
      rw [upd_other _ _ (Ne.symm hab)]
      exact h.apart a b a1 a2 b1 b2 hab z (hown z (List.mem_of_mem_take hz))
    · rw [upd_other _ _ ha] at hz
      by_cases hb : b = id
      · subst hb
        rw [upd_same]
        exact fun hm => h.apart a b a1 a2 b1 b2 hab z hz (hown z (List.mem_of_mem_take hm))
      · rw [upd_other _ _ hb]
        exact h.apart a b a1 a2 b1 b2 hab z hz
  · by_cases hb : b = id
    · subst hb
      rw [upd_same] at h9 ⊢
      simp only at h9 ⊢
      have hm := getD_mem (show 8 < (ks.take keep).length by omega)
      rw [keepH _ (hzH b b1 b2 _ (hown _ (List.mem_of_mem_take hm))), hs, if_neg (hzR b b1 b2 _ (hown _ (List.mem_of_mem_take hm)))]
      by_cases hq : (ks.take keep).length = ks.length
      · rw [if_neg (fun hh => hh.2.1 hq)]
        have ht : ks.take keep = ks := List.take_of_length_le (by omega)
        rw [ht]
        have := h.rest b b1 b2 (by rw [hks]; omega)
        rw [hks] at this
        exact this
      · rw [if_pos ⟨h9, hq, rfl⟩]
    · rw [upd_other _ _ hb] at h9 ⊢
      rw [hother b b1 b2 hb _ (getD_mem (by omega))]
      exact h.rest b b1 b2 h9
  · by_cases hb : b = id
    · subst hb
      rw [upd_same, upd_same]
      simp only
      have hD := h.data b b1 b2
      rw [hks, hSz] at hD
      rw [<- hD]
      have e := bytesF_split (nowM mem M) ks 0 S2 (S - S2)
      rw [show S2 + (S - S2) = S by omega] at e
      rw [e, List.take_left' (bytesF_len _ _ _ _)]
      refine bytesF_congr (fun j hj => ?_)
      have hix : idxN (j / 128) < keep := by
        have := idxN_lt (size := S2) (by omega) (q := j / 128) (by omega)
        omega
      unfold byteF
      have hm := getD_mem (ks := ks.take keep) (i := idxN (j / 128)) (by omega)
      rw [keepH _ (hzH b b1 b2 _ (hown _ (List.mem_of_mem_take hm))), keep6 _ (hzR b b1 b2 _ (hown _ (List.mem_of_mem_take hm))) (fun h9 e => by
        have p1 := hpos _ hm
        have p2 := hpos _ (getD_mem (show 8 < (ks.take keep).length by omega))
        exact idxN_ne (j / 128) (getD_inj (i := idxN (j / 128)) (j := 8) hndT (by omega) (by omega) (by omega))), hgetT _ hix]
    · rw [upd_other _ _ hb, upd_other _ _ hb, <- h.data b b1 b2]
      refine bytesF_congr (fun j hj => ?_)
      unfold byteF
      have hbo := (h.says b b1 b2).1
      have hix : idxN (j / 128) < (N b).list.length := by
        have := idxN_lt hbo.2.1 (q := j / 128) (by omega)
        have := hbo.2.2.1
        omega
      rw [hother b b1 b2 hb _ (getD_mem hix)]
end
structure CapsS (E : TE) (p o q s u : Nat) (id K S S2 keep : Int) (xv : Value) (w : World) : Prop where
  t : w.cell? ⟨p, 0, none⟩ = some (ptr E.tb)
  id : w.cell? ⟨o, 0, none⟩ = some (.int .i64 id)
  x : NdAt w q K S xv
  size : w.cell? ⟨s, 0, none⟩ = some (.int .i64 S2)
  keep : w.cell? ⟨u, 0, none⟩ = some (.int .i64 keep)
theorem CapsS.kept {E : TE} {p o q s u : Nat} {id K S S2 keep : Int} {xv : Value} {w w' : World} {bs : List Nat} (h : CapsS E p o q s u id K S S2 keep xv w) (ha : Apart bs w w') (hn : p ∉ bs /\ o ∉ bs /\ q ∉ bs /\ s ∉ bs /\ u ∉ bs) : CapsS E p o q s u id K S S2 keep xv w' :=
  ⟨(ha.cell (p := ⟨p, 0, none⟩) (lt_of_cell h.t) hn.1).trans h.t, (ha.cell (p := ⟨o, 0, none⟩) (lt_of_cell h.id) hn.2.1).trans h.id, h.x.keep ha hn.2.2.1, (ha.cell (p := ⟨s, 0, none⟩) (lt_of_cell h.size) hn.2.2.2.1).trans h.size, (ha.cell (p := ⟨u, 0, none⟩) (lt_of_cell h.keep) hn.2.2.2.2).trans h.keep⟩
def SAp (m : Nat) (w wx : World) : Prop := Apart [m] w wx
theorem SAp.mk {m : Nat} {w wx : World} (h : Apart [m] w wx) : SAp m w wx := h
theorem SAp.out {m : Nat} {w wx : World} (h : SAp m w wx) : Apart [m] w wx := h
theorem SAp.more {m : Nat} {w wx wy : World} (h : SAp m w wx) (h2 : Apart [m] wx wy) : SAp m w wy := h.out.trans h2
section
variable {E : TE} {mem : Nat -> Int} {writes : Int} {M : Chg} {w w' : World}
theorem shrink1_ok {p o q s u : Nat} {id K S S2 keep : Nat} {b xc : Nat} {ks : List Int} {base : Nat} (hc : CapsS E p o q s u id K S S2 keep (.slice (some ⟨b, 0, none⟩) ks.length xc) w) (hne : p ≠ E.mb /\ o ≠ E.mb /\ q ≠ E.mb /\ s ≠ E.mb /\ u ≠ E.mb)
    (h : E.St mem writes M w) (ok : E.Ok) (hx : Kept base w (.slice (some ⟨b, 0, none⟩) ks.length xc) ks) (hmb : E.mb < base) (hid : 1 <= id /\ id <= E.tn) (hK : K <= 255) (hS : S <= 4000) (hSS : S2 < S) (hkp : keep <= ks.length) (hl : ks.length <= 33) (hnd : ks.Nodup) (hmine : ∀ z ∈ ks, ∃ i, i < E.k /\ z = E.fr + (i : Int) /\ bitM mem M E.ma i = true) (hst : E.R id /\ ∀ z ∈ ks, ∃ i, (i < E.k /\ E.U i) /\ z = E.fr + (i : Int)) :
    Calls Tryz.prog 222 #[ptr p, ptr o, ptr q, ptr s, ptr u] w fun e w' => e = .returned .nilIface /\ ∃ M3 M', Settled mem M M3 (E.ta + id - 1) K S2 (ks.take keep) ks.length /\ E.Gave mem M3 M' (ks.drop keep) /\ E.St mem writes M' w' /\ Apart [E.mb] w w' := by
  have kk := hidden (fun (wx : World) (hx : SAp E.mb w wx) => show wx.cell? ⟨p, 0, none⟩ = some (ptr E.tb) /\ wx.cell? ⟨o, 0, none⟩ = some (.int .i64 (id : Int)) /\ wx.cell? ⟨q, 0, none⟩ = some (.int .i64 (K : Int)) /\ wx.cell? ⟨q, 1, none⟩ = some (.int .i64 (S : Int)) /\ wx.cell? ⟨q, 2, none⟩ = some (.slice (some ⟨b, 0, none⟩) ks.length xc) /\ wx.cell? ⟨s, 0, none⟩ = some (.int .i64 (S2 : Int)) /\ wx.cell? ⟨u, 0, none⟩ = some (.int .i64 (keep : Int)) from by
    have x := hc.kept hx.out (by simpa using hne)
    exact ⟨x.t, x.id, x.x.c0, x.x.c1, x.x.c2, x.size, x.keep⟩)
  have hvC := hx.toC hmb
  obtain ⟨a', c', e', hxc, hxm, -, hcell⟩ := hvC.at
  obtain ⟨-, -, rfl⟩ := Value.slice.inj e'
  have hks : ∀ z ∈ ks, 0 <= z /\ z < 2147483648 := fun z hz => by obtain ⟨i, i1, i2, -⟩ := hmine z hz; have := ok.fr; omega
  have hinA : ∀ z ∈ ks, z.toNat ∈ E.A := fun z hz => by
    obtain ⟨i, i1, i2⟩ := hst.2 z hz
    rw [show z.toNat = E.fr + i by omega]
    exact ok.data i i1.1 i1.2
  have hAd := hidden (Apart.of_below (bs := [E.mb]) (below_drew1 w))
  have kS := hidden (isettle_calls (h.more (below_drew1 w)) ok id hid.1 hid.2 hst.1 K S K S2 ks.length (some ⟨b, 0, none⟩) xc (v := .slice (some ⟨b, 0, none⟩) keep xc) (ks := ks.take keep) (fun wx hx => (hvC wx (hAd.out.trans hx)).take keep hkp) (by omega) hK (by omega) (fun z hz => hks z (List.mem_of_mem_take hz)) (by rw [List.length_take]; omega) (fun z hz => hinA z (List.mem_of_mem_take hz)))
  have hbmb : b ≠ E.mb := by
    have := (hx.row.lt b rfl).1
    omega
  have kG0 := hidden (fun (w4 : World) (M3 : Chg) (hs : Settled mem M M3 (E.ta + id - 1) K S2 (ks.take keep) ks.length) (h4 : E.St mem writes M3 w4) (hA4 : Apart [E.mb] w w4) (a1 : Option Addr) (ha : a1 = some ⟨b, keep, none⟩ \/ (xc - keep = 0 /\ a1 = some ⟨b, 0, none⟩)) => show Calls Tryz.prog 196 #[ptr E.tb, .slice a1 (ks.length - keep) (xc - keep)] w4.drew fun e w' => e = .returned .nilIface /\ ∃ M', E.Gave mem M3 M' (ks.drop keep) /\ E.St mem writes M' w' /\ Apart [E.mb] w4.drew w' from by
    refine igive_calls (h4.more (below_drew1 w4)) ok ⟨a1, xc - keep, by rw [List.length_drop], by rw [List.length_drop]; omega, by omega, fun e => (by rcases ha with rfl | ⟨-, rfl⟩ <;> cases e), fun hne' => ?_⟩ (fun b' off ⟨n', c'', e⟩ => ?_) (by rw [List.length_drop]; omega) (hnd.sublist (List.drop_sublist _ _)) (fun z hz => ?_)
    · have hpos : 0 < (ks.drop keep).length := List.length_pos_iff.2 hne'
      rw [List.length_drop] at hpos
      rcases ha with rfl | ⟨h0, rfl⟩
      · obtain ⟨a2, c2, e2, -, -, -, hc2⟩ := hvC w4.drew (hA4.trans (Apart.of_below (below_drew1 w4)))
        obtain ⟨rfl, -, -⟩ := Value.slice.inj e2
        obtain ⟨b2, off2, e3, hb2, hk2⟩ := hc2 (by intro e; rw [e] at hpos; simp at hpos)
        simp only [Option.some.injEq, Addr.mk.injEq] at e3
        obtain ⟨rfl, rfl, -⟩ := e3
        refine ⟨_, keep, rfl, hb2, fun k hk => ?_⟩
        rw [List.length_drop] at hk
        have := hk2 (keep + k) (by omega)
        rw [Nat.zero_add] at this
        rw [this]
        simp [List.getD]
      · omega
    · have e1 := (Value.slice.inj e).1
      rcases ha with rfl | ⟨-, rfl⟩ <;> (simp only [Option.some.injEq, Addr.mk.injEq] at e1; obtain ⟨rfl, -⟩ := e1; exact hbmb)
    · obtain ⟨i, i1, i2, i3⟩ := hmine z (List.mem_of_mem_drop hz)
      refine ⟨i, i1, i2, ?_⟩
      rw [bit_same (E := E) (M := M) (by
        rw [hs, if_neg (ok.hr i id i1 hid.1 hid.2), if_neg (fun hh => by
          obtain ⟨j, j1, j2, -⟩ := hmine _ (List.mem_of_mem_take (getD_mem (show 8 < (ks.take keep).length by omega)))
          exact ok.hd i j i1 j1 (by omega))])]
      exact i3)
  have hkc : (keep : Int) <= (xc : Int) := by omega
  have hkL : (keep : Int) <= (ks.length : Int) := by omega
  clear hc h hx hvC hcell hks hinA hmine hnd hst
  replace ok := hidden ok
  go_enter Tryz.func222, Tryz.ntmps222
  go_upto_region 1 with fail
  go_cut [6] (fun a wx => a = .nilIface /\ ∃ M3, Settled mem M M3 (E.ta + id - 1) K S2 (ks.take keep) ks.length /\ E.St mem writes M3 wx /\ Apart [E.mb] w wx)
  case first =>
    have hS0 : SAp E.mb w w.drew := SAp.mk hAd.out
    refine wp_region_held_drew (S := SAp E.mb w) (by kernel_rfl) hS0 ?_
    intro _
    refine wpAnyH_take (i := 0) (v := ?_) rfl (by kernel_rfl) (by kernel_rfl) (by kernel_rfl) (fun _ _ _ h => h) (Or.inl ⟨by rfl, ?_⟩) hS0 ?_
    rotate_left
    · intro w hw; have x0 := kk.out _ hw; have m0 := x0.1; clear x0; clear hw; go_simp; try (with_reducible rfl)
    refine wpAnyH_take (i := 1) (v := ?_) rfl (by kernel_rfl) (by kernel_rfl) (by kernel_rfl) (fun _ _ _ h => h) (Or.inl ⟨by rfl, ?_⟩) hS0 ?_
    rotate_left
    · intro w hw; have x0 := kk.out _ hw; have m0 := x0.2.1; clear x0; clear hw; go_simp; try (with_reducible rfl)
    refine wpAnyH_take (i := 2) (v := ?_) rfl (by kernel_rfl) (by kernel_rfl) (by kernel_rfl) (fun _ _ _ h => h) (Or.inl ⟨by rfl, ?_⟩) hS0 ?_
    rotate_left
    · intro w hw; have x0 := kk.out _ hw; have m0 := x0.2.2.1; have m1 := x0.2.2.2.1; have m2 := x0.2.2.2.2.1; clear x0; clear hw; go_simp; try (with_reducible rfl)
    refine wpAnyH_take (i := 3) (v := ?_) rfl (by kernel_rfl) (by kernel_rfl) (by kernel_rfl) (fun _ _ _ h => h) (Or.inl ⟨by rfl, ?_⟩) hS0 ?_
    rotate_left
    · intro w hw; clear hw; go_simp; try (with_reducible rfl)
    refine wpAnyH_take (i := 4) (v := ?_) rfl (by kernel_rfl) (by kernel_rfl) (by kernel_rfl) (fun _ _ _ h => h) (Or.inl ⟨by rfl, ?_⟩) hS0 ?_
    rotate_left
    · intro w hw; have x0 := kk.out _ hw; have m0 := x0.2.2.1; clear x0; clear hw; go_simp; try (with_reducible rfl)
    refine wpAnyH_take (i := 5) (v := ?_) rfl (by kernel_rfl) (by kernel_rfl) (by kernel_rfl) (fun _ _ _ h => h) (Or.inl ⟨by rfl, ?_⟩) hS0 ?_
    rotate_left
    · intro w hw; have x0 := kk.out _ hw; have m0 := x0.2.2.2.2.2.1; clear x0; clear hw; go_simp; try (with_reducible rfl)
    refine wpAnyH_take (i := 6) (v := ?_) rfl (by kernel_rfl) (by kernel_rfl) (by kernel_rfl) (fun _ _ _ h => h) (Or.inl ⟨by rfl, ?_⟩) hS0 ?_
    rotate_left
    · intro w hw; clear hw; go_simp; try (with_reducible rfl)
    refine wpAnyH_take (i := 7) (v := ?_) rfl (by kernel_rfl) (by kernel_rfl) (by kernel_rfl) (fun _ _ _ h => h) (Or.inl ⟨by rfl, ?_⟩) hS0 ?_
    rotate_left
    · intro w hw; have x0 := kk.out _ hw; have m0 := x0.2.2.2.2.1; clear x0; clear hw; go_simp; try (with_reducible rfl)
    refine wpAnyH_ready (rs := [8]) (by kernel_rfl) (by simp) ?_
    refine AllReadyH.cons rfl (fun K hK => ?_) AllReadyH.nil
    have x0 := kk.out _ hS0; have m0 := x0.2.2.2.2.2.2; clear x0
    go_simp
    refine hK.out _ _ hS0 (fun _ => ?_)
    clear hK K
    refine wpAnyH_ready (rs := [9]) (by kernel_rfl) (by simp) ?_
    refine AllReadyH.cons rfl (fun K hK => ?_) AllReadyH.nil
    go_simp
    refine hK.out _ _ hS0 (fun _ => ?_)
    clear hK K
    refine wpAnyH_ready (rs := [10]) (by kernel_rfl) (by simp) ?_
    refine AllReadyH.cons rfl (fun K hK => ?_) AllReadyH.nil
    go_simp
    refine hK.out _ _ hS0 (fun _ => ?_)
    clear hK K
    refine wpAnyH_ready (rs := [11]) (by kernel_rfl) (by simp) ?_
    refine AllReadyH.cons rfl (fun K hK => ?_) AllReadyH.nil
    go_simp
    go_wp2_with (go_at_call 223; refine (kS.out).mono ?_; rintro ev w3 ⟨rfl, M3, g1, g2, g3⟩)
    refine hK.out _ _ (SAp.more hS0 g3) (fun hSn1 => ?_)
    clear hK K
    refine wpAnyH_ready (rs := [12]) (by kernel_rfl) (by simp) ?_
    refine AllReadyH.cons rfl (fun K hK => ?_) AllReadyH.nil
    go_simp
    refine hK.out _ _ hSn1 (fun _ => ?_)
    clear hK K
    refine wpAnyH_done (by kernel_rfl) ?_ _
    have hE3 := hidden (And.intro g1 (And.intro g2 (SAp.more hS0 g3).out))
    clear g1 g2 g3
    go_wp2
    go_meet
    case rel => exact ⟨rfl, M3, hE3.out⟩
  case rest =>
    rename World => w4
    obtain ⟨rfl, M3, g1, g2, g3⟩ := hcut
    have hS4 : SAp E.mb w w4.drew := SAp.mk (g3.trans (Apart.of_below (bs := [E.mb]) (below_drew1 w4)))
    have kG1 := hidden (fun (a1 : Option Addr) ha => kG0.out w4 M3 g1 g2 g3 a1 ha)
    have hE3 := hidden g1
    clear g1 g2 g3
    have kG := hidden (kG1.out (if xc = keep then some ⟨b, 0, none⟩ else some ⟨b, keep, none⟩) (by
      by_cases hz : xc = keep
      · rw [if_pos hz]; exact Or.inr ⟨by omega, rfl⟩
      · rw [if_neg hz]; exact Or.inl rfl))
    go_upto_region 4 with fail
    refine wp_region_held_drew (S := SAp E.mb w) (by kernel_rfl) hS4 ?_
    intro _
    refine wpAnyH_take (i := 0) (v := ?_) rfl (by kernel_rfl) (by kernel_rfl) (by kernel_rfl) (fun _ _ _ h => h) (Or.inl ⟨by rfl, ?_⟩) hS4 ?_
    rotate_left
    · intro w hw; have x0 := kk.out _ hw; have m0 := x0.1; clear x0; clear hw; go_simp; try (with_reducible rfl)
    refine wpAnyH_take (i := 1) (v := ?_) rfl (by kernel_rfl) (by kernel_rfl) (by kernel_rfl) (fun _ _ _ h => h) (Or.inl ⟨by rfl, ?_⟩) hS4 ?_
    rotate_left
    · intro w hw; clear hw; go_simp; try (with_reducible rfl)
    refine wpAnyH_take (i := 2) (v := ?_) rfl (by kernel_rfl) (by kernel_rfl) (by kernel_rfl) (fun _ _ _ h => h) (Or.inl ⟨by rfl, ?_⟩) hS4 ?_
    rotate_left
    · intro w hw; have x0 := kk.out _ hw; have m0 := x0.2.2.2.2.1; clear x0; clear hw; go_simp; try (with_reducible rfl)
    refine wpAnyH_ready (rs := [3]) (by kernel_rfl) (by simp) ?_
    refine AllReadyH.cons rfl (fun K hK => ?_) AllReadyH.nil
    have x0 := kk.out _ hS4; have m0 := x0.2.2.2.2.2.2; clear x0
    go_simp
    refine hK.out _ _ hS4 (fun _ => ?_)
    clear hK K
    refine wpAnyH_ready (rs := [4]) (by kernel_rfl) (by simp) ?_
    refine AllReadyH.cons rfl (fun K hK => ?_) AllReadyH.nil
    go_simp
    refine hK.out _ _ hS4 (fun _ => ?_)
    generalize (if xc = keep then (some ⟨b, 0, none⟩ : Option Addr) else some ⟨b, keep, none⟩) = a1 at *
    clear hK K
    refine wpAnyH_ready (rs := [5]) (by kernel_rfl) (by simp) ?_
    refine AllReadyH.cons rfl (fun K hK => ?_) AllReadyH.nil
    go_simp
    go_wp2_with (go_at_call 196; refine (kG.out).mono ?_; rintro ev w5 ⟨rfl, M5, g1, g2, g3⟩)
    refine hK.out _ _ (SAp.more hS4 g3) (fun hSn1 => ?_)
    clear hK K
    refine wpAnyH_ready (rs := [6]) (by kernel_rfl) (by simp) ?_
    refine AllReadyH.cons rfl (fun K hK => ?_) AllReadyH.nil
    go_simp
    refine hK.out _ _ hSn1 (fun _ => ?_)
    clear hK K
    refine wpAnyH_done (by kernel_rfl) ?_ _
    have hE5 := hidden (And.intro g1 (And.intro g2 (SAp.more hS4 g3).out))
    clear g1 g2 g3
    go_wp2
    go_ret
    exact ⟨rfl, M3, M5, hE3.out, hE5.out⟩
end
section
variable {E : TE} {mem : Nat -> Int} {writes : Int} {M : Chg} {w w' : World}
def boxS (w : World) (tb : Nat) (id K S S2 keep : Int) (xv : Value) : World :=
  ((((w.alloc (.cells #[ptr tb] 94)).alloc (.cells #[.int .i64 id] 3)).alloc (.cells #[.int .i64 K, .int .i64 S, xv] 151)).alloc (.cells #[.int .i64 S2] 3)).alloc (.cells #[.int .i64 keep] 3)
theorem boxS_below (w : World) (tb : Nat) (id K S S2 keep : Int) (xv : Value) : Below w.heap.size w (boxS w tb id K S S2 keep xv) := by
  unfold boxS
  exact (((((Below.refl _ _).alloc (Nat.le_refl _) _).alloc (by simp) _).alloc (by simp; omega) _).alloc (by simp; omega) _).alloc (by simp; omega) _
theorem boxS_caps (E : TE) (w : World) (id K S S2 keep : Int) (xv : Value) : CapsS E w.heap.size (w.heap.size + 1) (w.heap.size + 2) (w.heap.size + 3) (w.heap.size + 4) id K S S2 keep xv (boxS w E.tb id K S S2 keep xv) := by
  unfold boxS
  have up : ∀ (W : World) (o : Obj) (p : Addr) (v : Value), W.cell? p = some v -> (W.alloc o).cell? p = some v := fun W o p v h => (((Below.refl W.heap.size W).alloc (Nat.le_refl _) o).cell (lt_of_cell h)).trans h
  generalize e1 : w.alloc (.cells #[ptr E.tb] 94) = W1
  have a1 : W1.cell? ⟨w.heap.size, 0, none⟩ = some (ptr E.tb) := by rw [<- e1]; simp
  have s1 : W1.heap.size = w.heap.size + 1 := by rw [<- e1]; simp
  generalize e2 : W1.alloc (.cells #[.int .i64 id] 3) = W2
  have a2 : W2.cell? ⟨w.heap.size + 1, 0, none⟩ = some (.int .i64 id) := by rw [<- e2, <- s1]; simp
  have s2 : W2.heap.size = w.heap.size + 2 := by rw [<- e2]; simp [s1]
  have b1 := up W1 (.cells #[.int .i64 id] 3) _ _ a1
  rw [e2] at b1
  generalize e3 : W2.alloc (.cells #[.int .i64 K, .int .i64 S, xv] 151) = W3
  have a3 : NdAt W3 (w.heap.size + 2) K S xv := by rw [<- e3, <- s2]; exact ⟨by simp, by simp, by simp⟩
  have s3 : W3.heap.size = w.heap.size + 3 := by rw [<- e3]; simp [s2]
  have u3 := up W2 (.cells #[.int .i64 K, .int .i64 S, xv] 151)
  rw [e3] at u3
  generalize e4 : W3.alloc (.cells #[.int .i64 S2] 3) = W4
  have a4 : W4.cell? ⟨w.heap.size + 3, 0, none⟩ = some (.int .i64 S2) := by rw [<- e4, <- s3]; simp
  have s4 : W4.heap.size = w.heap.size + 4 := by rw [<- e4]; simp [s3]
  have u4 := up W3 (.cells #[.int .i64 S2] 3)
  rw [e4] at u4
  have u5 := up W4 (.cells #[.int .i64 keep] 3)
  refine ⟨u5 _ _ (u4 _ _ (u3 _ _ b1)), u5 _ _ (u4 _ _ (u3 _ _ a2)), ⟨u5 _ _ (u4 _ _ a3.c0), u5 _ _ (u4 _ _ a3.c1), u5 _ _ (u4 _ _ a3.c2)⟩, u5 _ _ a4, ?_⟩
  rw [<- s4]; simp
theorem shrink_any {id K S S2 keep : Nat} {xa : Option Addr} {xl xc : Nat} {Q : World -> Prop} (hkp : (keep : Int) = blk S2)
    (kW : Calls Tryz.prog 194 #[ptr E.tb, .func (.func 222) #[] #[ptr w.heap.size, ptr (w.heap.size + 1), ptr (w.heap.size + 2), ptr (w.heap.size + 3), ptr (w.heap.size + 4)]] (boxS w E.tb id K S S2 keep (.slice xa xl xc)) fun e w' => e = .returned .nilIface /\ Q w') :
    Calls Tryz.prog 175 #[ptr E.tb, .int .i64 id, nodeV K S (.slice xa xl xc), .int .i64 S2] w fun e w' => e = .returned .nilIface /\ Q w' := by
  have hmf : ∀ (fn : Fn) (first cap : Array Value) (w : World), (Instr.makeFunc fn first cap).run Tryz.prog w = .ok (.func fn first cap) w := fun _ _ _ _ => rfl
  have kB := hidden (fun (wx : World) => blocks_calls (S2 : Int) wx)
  rw [<- hkp] at kB
  clear hkp
  unfold boxS at kW
  replace kW := hidden kW
  go_enter Tryz.func175, Tryz.ntmps175
  go_wp2_with fail
  refine (kB.out _).mono ?_
  rintro ev w7 ⟨rfl, rfl⟩
  clear kB
  go_wp2_with fail
  refine (kW.out).mono ?_
  rintro ev w7 ⟨rfl, hq⟩
  replace hq := hidden hq
  go_wp2
  go_ret
  exact ⟨rfl, hq.out⟩
theorem ent_shrink1 : ∀ (args : Array Value) (w : World), (callFunc 222 args).run Tryz.prog w = .ok (.enter 222 args) w := enters_of Tryz.func222 (by kernel_rfl) rfl
theorem ishrink_ok {id K S S2 keep : Nat} {xv : Value} {ks : List Int} {base : Nat} (h : E.St mem writes M w) (ok : E.Ok) (hx : Kept base w xv ks) (hmb : E.mb < base) (hid : 1 <= id /\ id <= E.tn) (hK : K <= 255) (hS : S <= 4000) (hSS : S2 < S) (hkp : (keep : Int) = blk S2) (hlen : ((ks.length : Nat) : Int) = blk S) (hnd : ks.Nodup) (hmine : ∀ z ∈ ks, ∃ i, i < E.k /\ z = E.fr + (i : Int) /\ bitM mem M E.ma i = true) (hst : E.R id /\ ∀ z ∈ ks, ∃ i, (i < E.k /\ E.U i) /\ z = E.fr + (i : Int)) :
    Calls Tryz.prog 175 #[ptr E.tb, .int .i64 id, nodeV K S xv, .int .i64 S2] w fun e w' => e = .returned .nilIface /\ ∃ M3 M', Settled mem M M3 (E.ta + id - 1) K S2 (ks.take keep) ks.length /\ E.Gave mem M3 M' (ks.drop keep) /\ E.St mem writes M' w' /\ Apart [E.mb] w w' := by
  have hmbw := h.lts.2.2.2.2.1
  have hbr := blk_range (S : Int)
  have hbr2 := blk_range (S2 : Int)
  have hge : blk (S2 : Int) <= blk (S : Int) := by unfold blk; split <;> split <;> (try split) <;> (try split) <;> (try split) <;> (try split) <;> omega
  have hpos : 0 < blk (S : Int) := by unfold blk; split <;> (try split) <;> (try split) <;> omega
  obtain ⟨xa, xc, hxE, hxf⟩ := hx.form
  obtain ⟨b, rfl, -⟩ := hxf (by intro e; rw [e] at hlen; simp at hlen; omega)
  subst hxE
  refine shrink_any (w := w) hkp ?_
  have hBw := boxS_below w E.tb id K S S2 keep (.slice (some ⟨b, 0, none⟩) ks.length xc)
  have hcw := boxS_caps E w id K S S2 keep (.slice (some ⟨b, 0, none⟩) ks.length xc)
  refine whole_ok ent_shrink1 (h.more hBw) ok (fun wx hxx => ?_)
  have hB := hBw.trans (hxx.mono hBw.size)
  refine (shrink1_ok (hcw.kept (Apart.of_below (bs := []) hxx) (by simp)) ⟨by omega, by omega, by omega, by omega, by omega⟩ (h.more hB) ok (hx.below hB) hmb hid hK hS hSS (by omega) (by omega) hnd hmine hst).mono (fun e w' ⟨q0, M3, M', q1, q2, q3, q4⟩ => ⟨q0, M3, M', q1, q2, q3, (Apart.of_below hB).trans q4⟩)
end
section
variable {E : TE} {w w' : World}
theorem cut_less {id K S S2 : Nat} {ks : List Int} {Q : World -> Prop} (hS : S <= 4000) (hSS : S2 < S)
    (kL : Calls Tryz.prog 174 #[ptr E.tb, .int .i64 id] w fun e w' => ∃ v, e = .returned (.tuple #[nodeV K S v, .nilIface]) /\ Kept w.heap.size w' v ks /\ Below w.heap.size w w')
    (kP : ∀ w5 xv, Below w.heap.size w w5 -> Kept w.heap.size w5 xv ks -> Calls Tryz.prog 175 #[ptr E.tb, .int .i64 id, nodeV K S xv, .int .i64 S2] w5 fun e w' => e = .returned .nilIface /\ Q w') :
    Calls Tryz.prog 124 #[ptr E.tb, .int .i64 id, .int .i64 S2] w fun e w' => e = .returned .nilIface /\ Q w' := by
  have h0 : ¬ (S2 : Int) < 0 := by omega
  have h5 : ¬ 4000 < (S2 : Int) := by omega
  have h6 : (S2 : Int) < (S : Int) := by omega
  replace kL := hidden kL
  replace kP := hidden kP
  go_enter Tryz.func124, Tryz.ntmps124
  go_wp2_with fail
  refine (kL.out).mono ?_
  rintro ev w1 ⟨v, rfl, hK, hB⟩
  have hB5 : Below w1.heap.size w1 (w1.alloc (.cells #[.int .i64 K, .int .i64 S, v] 151)) := (Below.refl _ _).alloc (Nat.le_refl _) _
  have kP5 := hidden (kP.out _ v (hB.trans (hB5.mono hB.size)) (hK.below hB5))
  obtain ⟨a, c, rfl, -⟩ := hK.form
  clear hK hB hB5 kL kP
  go_wp2_with fail
  refine (kP5.out).mono ?_
  rintro ev w7 ⟨rfl, hq⟩
  replace hq := hidden hq
  go_wp2
  go_ret
  exact ⟨rfl, hq.out⟩
theorem cut_more {id K S S2 GAP : Nat} {ks : List Int} {e0 : Value} {Q : World -> Prop} (hS2 : S2 <= 4000) (hSS : S2 = S + GAP)
    (kL : Calls Tryz.prog 174 #[ptr E.tb, .int .i64 id] w fun e w' => ∃ v, e = .returned (.tuple #[nodeV K S v, .nilIface]) /\ Kept w.heap.size w' v ks /\ Below w.heap.size w w')
    (hmb : E.mb < w.heap.size)
    (kP : ∀ w5 xv, Below w.heap.size w w5 -> Kept w.heap.size w5 xv ks -> (∀ g, xv.ownBlock = some g -> g < w5.heap.size) -> Calls Tryz.prog 176 #[ptr E.tb, .int .i64 id, nodeV K S xv, .int .i64 (S : Int), .slice (some ⟨w5.heap.size, 0, none⟩) GAP GAP] (w5.alloc (.cells (Array.replicate GAP (.int .u8 0)) 5)).drew fun e w' => e = .returned e0 /\ Q w' /\ (∀ b, b < (w5.alloc (.cells (Array.replicate GAP (.int .u8 0)) 5)).drew.heap.size -> b ≠ E.mb -> some b ≠ xv.ownBlock -> w'.heap[b]? = (w5.alloc (.cells (Array.replicate GAP (.int .u8 0)) 5)).drew.heap[b]?)) (he : e0 = .nilIface \/ e0 = num 15) :
    Calls Tryz.prog 124 #[ptr E.tb, .int .i64 id, .int .i64 S2] w fun e w' => e = .returned e0 /\ Q w' := by
  have h0 : ¬ (S2 : Int) < 0 := by omega
  have h5 : ¬ 4000 < (S2 : Int) := by omega
  have h6 : ¬ (S2 : Int) < (S : Int) := by omega
  have hg1 : (S2 : Int) - (S : Int) = (GAP : Int) := by omega
  have hw2 : IntKind.i64.wrap (GAP : Int) = (GAP : Int) := wrap_pos _ (by omega) (by omega)
  have hmk : ∀ wx, (Instr.makeSlice 38 (.int .i64 (GAP : Int)) (.int .i64 (GAP : Int))).run Tryz.prog wx = .ok (.slice (some ⟨wx.heap.size, 0, none⟩) GAP GAP) (wx.alloc (.cells (Array.replicate GAP (.int .u8 0)) 5)) := fun wx => make_bytes GAP (by omega) wx
  replace kL := hidden kL
  replace kP := hidden kP
  clear hSS
  go_enter Tryz.func124, Tryz.ntmps124
  go_wp2_with fail
  refine (kL.out).mono ?_
  rintro ev w1 ⟨v, rfl, hK, hB⟩
  obtain ⟨w5, hw5, hB5, hN5⟩ : ∃ w5, w1.alloc (.cells #[.int .i64 K, .int .i64 S, v] 151) = w5 /\ Below w1.heap.size w1 w5 /\ NdAt w5 w1.heap.size K S v := ⟨_, rfl, (Below.refl _ _).alloc (Nat.le_refl _) _, ⟨by simp, by simp, by simp⟩⟩
  have hb1o : some w1.heap.size ≠ v.ownBlock := fun e => absurd (hK.row.lt _ e.symm).2 (Nat.lt_irrefl _)
  have hb1m : w1.heap.size ≠ E.mb := by have := hB.size; omega
  have hob : ∀ g, v.ownBlock = some g -> g < w5.heap.size := fun g hg => Nat.lt_of_lt_of_le (hK.row.lt g hg).2 hB5.size
  have hB05 := hB.trans (hB5.mono hB.size)
  have kP5 := hidden (kP.out w5 v hB05 (hK.below hB5) hob)
  obtain ⟨a, c, rfl, -⟩ := hK.form
  have n0 := hN5.c0
  have n1 := hN5.c1
  have n2 := hN5.c2
  have hlt5 : w1.heap.size < w5.heap.size := lt_of_cell (a := ⟨w1.heap.size, 0, none⟩) n0
  obtain ⟨OB, hOB⟩ : ∃ OB, OB = w5.heap[w1.heap.size]? := ⟨_, rfl⟩
  replace hOB := hidden hOB
  have kSB := hidden (fun (wx : World) (hx : Below w5.heap.size w5 wx) => show SameB w1.heap.size OB wx from (hx.block _ hlt5).trans hOB.out.symm)
  have kSP := hidden (fun (w9 w10 : World) (h9 : SameB w1.heap.size OB w9) (hf : ∀ b, b < w9.heap.size -> b ≠ E.mb -> some b ≠ (Value.slice a ks.length c).ownBlock -> w10.heap[b]? = w9.heap[b]?) (hB : Below w5.heap.size w5 w9) => show SameB w1.heap.size OB w10 from (hf _ (Nat.lt_of_lt_of_le hlt5 hB.size) hb1m hb1o).trans h9)
  have kN := hidden (fun (wx : World) (hx : SameB w1.heap.size OB wx) => show wx.cell? ⟨w1.heap.size, 0, none⟩ = some (.int .i64 (K : Int)) /\ wx.cell? ⟨w1.heap.size, 1, none⟩ = some (.int .i64 (S : Int)) /\ wx.cell? ⟨w1.heap.size, 2, none⟩ = some (.slice a ks.length c) from ⟨(World.cell?_of_block (w := w5) (a := ⟨w1.heap.size, 0, none⟩) (hx.trans hOB.out)).trans n0, (World.cell?_of_block (w := w5) (a := ⟨w1.heap.size, 1, none⟩) (hx.trans hOB.out)).trans n1, (World.cell?_of_block (w := w5) (a := ⟨w1.heap.size, 2, none⟩) (hx.trans hOB.out)).trans n2⟩)
  have hB7a : Below w5.heap.size w5 (w5.alloc (.cells (Array.replicate GAP (.int .u8 0)) 5)) := (Below.refl _ _).alloc (Nat.le_refl _) _
  have hB7 := hidden (hB7a.trans ((below_drew1 _).mono hB7a.size))
  clear hK hB hB5 hN5 hob hB05 kL kP
  generalize ks.length = KL at *
  go_upto_region 10 with fail
  clear hw5 n0 n1 n2 hB7a
  have hS0 := kSB.out _ (below_drew1 w5)
  rcases he with rfl | rfl
  · refine wp_region_held_drew (S := SameB w1.heap.size OB) (by kernel_rfl) hS0 ?_
    intro _
    refine wpAnyH_take (i := 0) (v := ?_) rfl (by kernel_rfl) (by kernel_rfl) (by kernel_rfl) (fun _ _ _ h => h) (Or.inl ⟨by rfl, ?_⟩) hS0 ?_
    rotate_left
    · intro w hw; clear hw; go_simp; try (with_reducible rfl)
    refine wpAnyH_take (i := 1) (v := ?_) rfl (by kernel_rfl) (by kernel_rfl) (by kernel_rfl) (fun _ _ _ h => h) (Or.inl ⟨by rfl, ?_⟩) hS0 ?_
    rotate_left
    · intro w hw; clear hw; go_simp; try (with_reducible rfl)
    refine wpAnyH_take (i := 2) (v := ?_) rfl (by kernel_rfl) (by kernel_rfl) (by kernel_rfl) (fun _ _ _ h => h) (Or.inl ⟨by rfl, ?_⟩) hS0 ?_
    rotate_left
    · intro w hw; have x0 := kN.out _ hw; have m0 := x0.1; have m1 := x0.2.1; have m2 := x0.2.2; clear x0; clear hw; go_simp; try (with_reducible rfl)
    refine wpAnyH_take (i := 3) (v := ?_) rfl (by kernel_rfl) (by kernel_rfl) (by kernel_rfl) (fun _ _ _ h => h) (Or.inl ⟨by rfl, ?_⟩) hS0 ?_
    rotate_left
    · intro w hw; clear hw; go_simp; try (with_reducible rfl)
    refine wpAnyH_take (i := 4) (v := ?_) rfl (by kernel_rfl) (by kernel_rfl) (by kernel_rfl) (fun _ _ _ h => h) (Or.inl ⟨by rfl, ?_⟩) hS0 ?_
    rotate_left
    · intro w hw; have x0 := kN.out _ hw; have m1 := x0.2.1; clear x0; clear hw; go_simp; try (with_reducible rfl)
    refine wpAnyH_take (i := 5) (v := ?_) rfl (by kernel_rfl) (by kernel_rfl) (by kernel_rfl) (fun _ _ _ h => h) (Or.inl ⟨by rfl, ?_⟩) hS0 ?_
    rotate_left
    · intro w hw; clear hw; go_simp; try (with_reducible rfl)
    refine wpAnyH_ready (rs := [6]) (by kernel_rfl) (by simp) ?_
    refine AllReadyH.cons rfl (fun K hK => ?_) AllReadyH.nil
    go_simp
    refine hK.out _ _ hS0 (fun _ => ?_)
    clear hK K
    refine wpAnyH_ready (rs := [7]) (by kernel_rfl) (by simp) ?_
    refine AllReadyH.cons rfl (fun K hK => ?_) AllReadyH.nil
    have x0 := kN.out _ hS0; have m1 := x0.2.1; clear x0
    go_simp
    refine hK.out _ _ hS0 (fun _ => ?_)
    clear hK K
    refine wpAnyH_ready (rs := [8]) (by kernel_rfl) (by simp) ?_
    refine AllReadyH.cons rfl (fun K hK => ?_) AllReadyH.nil
    go_simp
    refine hK.out _ _ hS0 (fun _ => ?_)
    clear hK K
    refine wpAnyH_ready (rs := [9]) (by kernel_rfl) (by simp) ?_
    refine AllReadyH.cons rfl (fun K hK => ?_) AllReadyH.nil
    have hmk1 := hmk w5.drew
    go_simp
    refine hK.out _ _ (kSB.out _ hB7.out) (fun hSn1 => ?_)
    clear hmk1
    clear hK K
    refine wpAnyH_ready (rs := [10]) (by kernel_rfl) (by simp) ?_
    refine AllReadyH.cons rfl (fun K hK => ?_) AllReadyH.nil
    go_simp
    go_wp2_with (go_at_call 176; refine (kP5.out).mono ?_; rintro ev w10 ⟨rfl, hq, hqf⟩)
    refine hK.out _ _ (kSP.out _ _ hSn1 hqf hB7.out) (fun hSn2 => ?_)
    clear hK K
    refine wpAnyH_ready (rs := [11]) (by kernel_rfl) (by simp) ?_
    refine AllReadyH.cons rfl (fun K hK => ?_) AllReadyH.nil
    go_simp
    refine hK.out _ _ hSn2 (fun _ => ?_)
    clear hK K
    refine wpAnyH_done (by kernel_rfl) ?_ _
    replace hq := hidden hq
    clear hqf
    go_wp2
    go_ret
    exact ⟨rfl, hq.out⟩
  · refine wp_region_held_drew (S := SameB w1.heap.size OB) (by kernel_rfl) hS0 ?_
    intro _
    refine wpAnyH_take (i := 0) (v := ?_) rfl (by kernel_rfl) (by kernel_rfl) (by kernel_rfl) (fun _ _ _ h => h) (Or.inl ⟨by rfl, ?_⟩) hS0 ?_
    rotate_left
    · intro w hw; clear hw; go_simp; try (with_reducible rfl)
    refine wpAnyH_take (i := 1) (v := ?_) rfl (by kernel_rfl) (by kernel_rfl) (by kernel_rfl) (fun _ _ _ h => h) (Or.inl ⟨by rfl, ?_⟩) hS0 ?_
    rotate_left
    · intro w hw; clear hw; go_simp; try (with_reducible rfl)
    refine wpAnyH_take (i := 2) (v := ?_) rfl (by kernel_rfl) (by kernel_rfl) (by kernel_rfl) (fun _ _ _ h => h) (Or.inl ⟨by rfl, ?_⟩) hS0 ?_
    rotate_left
    · intro w hw; have x0 := kN.out _ hw; have m0 := x0.1; have m1 := x0.2.1; have m2 := x0.2.2; clear x0; clear hw; go_simp; try (with_reducible rfl)
    refine wpAnyH_take (i := 3) (v := ?_) rfl (by kernel_rfl) (by kernel_rfl) (by kernel_rfl) (fun _ _ _ h => h) (Or.inl ⟨by rfl, ?_⟩) hS0 ?_
    rotate_left
    · intro w hw; clear hw; go_simp; try (with_reducible rfl)
    refine wpAnyH_take (i := 4) (v := ?_) rfl (by kernel_rfl) (by kernel_rfl) (by kernel_rfl) (fun _ _ _ h => h) (Or.inl ⟨by rfl, ?_⟩) hS0 ?_
    rotate_left
    · intro w hw; have x0 := kN.out _ hw; have m1 := x0.2.1; clear x0; clear hw; go_simp; try (with_reducible rfl)
    refine wpAnyH_take (i := 5) (v := ?_) rfl (by kernel_rfl) (by kernel_rfl) (by kernel_rfl) (fun _ _ _ h => h) (Or.inl ⟨by rfl, ?_⟩) hS0 ?_
    rotate_left
    · intro w hw; clear hw; go_simp; try (with_reducible rfl)
    refine wpAnyH_ready (rs := [6]) (by kernel_rfl) (by simp) ?_
    refine AllReadyH.cons rfl (fun K hK => ?_) AllReadyH.nil
    go_simp
    refine hK.out _ _ hS0 (fun _ => ?_)
    clear hK K
    refine wpAnyH_ready (rs := [7]) (by kernel_rfl) (by simp) ?_
    refine AllReadyH.cons rfl (fun K hK => ?_) AllReadyH.nil
    have x0 := kN.out _ hS0; have m1 := x0.2.1; clear x0
    go_simp
    refine hK.out _ _ hS0 (fun _ => ?_)
    clear hK K
    refine wpAnyH_ready (rs := [8]) (by kernel_rfl) (by simp) ?_
    refine AllReadyH.cons rfl (fun K hK => ?_) AllReadyH.nil
    go_simp
    refine hK.out _ _ hS0 (fun _ => ?_)
    clear hK K
    refine wpAnyH_ready (rs := [9]) (by kernel_rfl) (by simp) ?_
    refine AllReadyH.cons rfl (fun K hK => ?_) AllReadyH.nil
    have hmk1 := hmk w5.drew
    go_simp
    refine hK.out _ _ (kSB.out _ hB7.out) (fun hSn1 => ?_)
    clear hmk1
    clear hK K
    refine wpAnyH_ready (rs := [10]) (by kernel_rfl) (by simp) ?_
    refine AllReadyH.cons rfl (fun K hK => ?_) AllReadyH.nil
    go_simp
    go_wp2_with (go_at_call 176; refine (kP5.out).mono ?_; rintro ev w10 ⟨rfl, hq, hqf⟩)
    refine hK.out _ _ (kSP.out _ _ hSn1 hqf hB7.out) (fun hSn2 => ?_)
    clear hK K
    refine wpAnyH_ready (rs := [11]) (by kernel_rfl) (by simp) ?_
    refine AllReadyH.cons rfl (fun K hK => ?_) AllReadyH.nil
    go_simp
    refine hK.out _ _ hSn2 (fun _ => ?_)
    clear hK K
    refine wpAnyH_done (by kernel_rfl) ?_ _
    replace hq := hidden hq
    clear hqf
    go_wp2
    go_ret
    exact ⟨rfl, hq.out⟩
end
theorem iCut_calls {tb : Nat} {id : Int} (hi : i64 id) {s : Int} {w : World} {Q : World -> Prop} (hQ : ∀ w1 w2, Q w1 -> Below w1.heap.size w1 w2 -> Q w2) (hG : ∀ w1, Q w1 -> Ground w1)
    (kW : Calls Tryz.prog 124 #[ptr tb, .int .i64 id, .int .i64 s] w fun e w' => e = .returned .nilIface /\ Q w') :
    Calls Tryz.prog 65 #[ptr tb, .int .i64 id, .int .i64 s] w fun e w' => e = .returned .nilIface /\ Q w' := by
  replace kW := hidden kW
  replace hi := hidden hi
  go_enter Tryz.func65, Tryz.ntmps65
  go_wp2_with fail
  refine (kW.out).mono ?_
  rintro ev w1 ⟨rfl, hq⟩
  have kA := hidden (about_nil id hi.out w1 (hG _ hq))
  replace hq := hidden hq
  go_wp2_with fail
  refine (kA.out).mono ?_
  rintro ev w2 ⟨rfl, hB2⟩
  have hE := hidden (hQ _ _ hq.out hB2)
  clear hB2
  go_wp2
  go_ret
  exact ⟨rfl, hE.out⟩
theorem freeN_up {S T : Nat -> Bool} : ∀ k, (∀ i, i < k -> S i = false -> T i = false) -> freeN S k <= freeN T k
  | 0, _ => by simp [freeN]
  | k + 1, h => by
    have := freeN_up k (fun i hi => h i (by omega))
    rw [freeN_succ, freeN_succ]
    cases hs : S k with
    | true => simp; omega
    | false => rw [h k (by omega) hs]; simp; omega
section
variable {E : TE} {K : Nat -> Nat} {D : Nat -> List Int} {f u lim : Nat} {w w' : World}
theorem S8.cutless (ok : E.Ok) (h : S8 E K D f u lim w) {id : Nat} (h1 : 1 <= id) (h2 : id <= E.tn) (hR : E.R id) (hW : E.W id) (hk : K id ≠ 0) {S2 n : Nat} (hS : S2 < (D id).length) (hn : blk ((D id).length : Int) - blk (S2 : Int) = (n : Int)) :
    Calls Tryz.prog 65 #[ptr E.tb, .int .i64 id, .int .i64 S2] w fun e w' => e = .returned .nilIface /\ S8 E K (upd D id ((D id).take S2)) (f + n) u lim w' /\ Apart [E.mb] w w' := by
  obtain ⟨mem, wr, M, N, q1, q2, q3, q4, q5, q6, q7, q8⟩ := h
  have hd : (D id).length = (N id).size := by rw [<- q2.data id h1 h2, bytesF_len]
  rw [hd] at hS hn
  have hx := (q2.says id h1 h2).1
  have hk12 : (N id).kind = 1 \/ (N id).kind = 2 := by
    rcases hx.1 with h' | h'
    · have := q5 id; omega
    · exact h'
  have htn := ok.tn
  have hlts := q1.lts
  have hszb := hx.2.1
  obtain ⟨keep, hkp⟩ : ∃ keep : Nat, (keep : Int) = blk S2 := ⟨(blk S2).toNat, by have := blk_range (S2 : Int); omega⟩
  refine iCut_calls (id := (id : Int)) ⟨by omega, by omega⟩ (Q := fun w' => S8 E K (upd D id ((D id).take S2)) (f + n) u lim w' /\ Apart [E.mb] w w') ?_ ?_ ?_
  · rintro w1 w2 ⟨r1, r2⟩ hB
    exact ⟨r1.more hB, r2.trans (Apart.of_below hB)⟩
  · rintro w1 ⟨r1, -⟩
    exact r1.ground
  refine cut_less (K := (N id).kind) (S := (N id).size) (ks := (N id).list) hszb hS (q1.load ok q2 id h1 h2 (by rw [q5]; exact hk)) (fun w5 xv hB5 hK5 => ?_)
  refine (ishrink_ok (keep := keep) (q1.more hB5) ok hK5 hlts.2.2.2.2.1 ⟨h1, h2⟩ (by omega) hszb hS hkp hx.2.2.1 (q2.nodup id h1 h2) (q2.mine id h1 h2) ⟨hR, q8.own id h1 h2 hW⟩).mono ?_
  rintro e w' ⟨rfl, M3, M', r1, r2, r3, r4⟩
  have hI := q2.shrink ok h1 h2 hk12 hS hkp r1 r2
  have hlen := hx.2.2.1
  have hge : blk (S2 : Int) <= blk ((N id).size : Int) := by unfold blk; split <;> split <;> (try split) <;> (try split) <;> (try split) <;> (try split) <;> omega
  have hbit3 : ∀ i, i < E.k -> bitM mem M3 E.ma i = bitM mem M E.ma i := fun i hi => bit_same (by
    rw [r1 (homeA E.ma i), if_neg (ok.hr i id hi h1 h2), if_neg (fun hh => by
      obtain ⟨j, j1, j2, -⟩ := q2.mine id h1 h2 _ (List.mem_of_mem_take (getD_mem (show 8 < ((N id).list.take keep).length by omega)))
      exact ok.hd i j hi j1 (by omega))])
  have hb' : ∀ i, i < E.k -> bitM mem M' E.ma i = (bitM mem M E.ma i && !decide (((E.fr + i : Nat) : Int) ∈ (N id).list.drop keep)) := fun i hi => by rw [r2.bits i hi, hbit3 i hi]
  refine ⟨rfl, ⟨mem, wr, M', _, r3, hI, q3, q4, fun j => ?_, ?_, ?_, ?_⟩, (Apart.of_below hB5).trans r4⟩
  · by_cases hj : j = id
    · subst hj; rw [upd_same]; exact q5 j
    · rw [upd_other _ _ hj]; exact q5 j
  · rw [r2.free, freeN_congr (T := bitM mem M E.ma) E.k hbit3, q6, List.length_drop]
    omega
  · refine Nat.le_trans q7 (freeN_up _ (fun i hi hz => ?_))
    rw [hb' i (Nat.lt_of_lt_of_le hi ok.kuk), hz]
    rfl
  · exact q8.cut ok h1 h2 (Or.inl hW) hb' (fun z hz => by
      rw [<- List.take_append_drop keep (N id).list] at hz
      exact List.mem_append.1 hz) (fun z hz => List.mem_of_mem_take hz) (fun z hz => List.mem_of_mem_drop hz) _ _
theorem putD_grow (d : List Int) (S2 : Nat) (h : d.length <= S2) : putD d (List.replicate (S2 - d.length) 0) d.length S2 = grownL d S2 := by
  apply List.ext_getElem?
  intro j
  unfold putD grownL
  rw [List.getElem?_map, List.length_replicate]
  by_cases hj : j < S2
  · rw [List.getElem?_range hj, Option.map_some]
    by_cases h1 : j < d.length
    · rw [if_neg (by omega), List.getElem?_append_left h1, List.getElem?_eq_getElem h1, List.getD_eq_getElem?_getD, List.getElem?_eq_getElem h1]
      rfl
    · rw [if_pos (by omega), List.getElem?_append_right (by omega), List.getElem?_replicate, if_pos (by omega), List.getD_eq_getElem?_getD, List.getElem?_replicate, if_pos (by omega)]
      rfl
  · rw [List.getElem?_eq_none (l := List.range S2) (by rw [List.length_range]; omega), List.getElem?_eq_none (by rw [List.length_append, List.length_replicate]; omega)]
    rfl
theorem zero_cd (m : Nat) (w : World) (n : Nat) (hn : n <= 100000) (hm : m < w.heap.size) : BytesC m (w.alloc (.cells (Array.replicate n (.int .u8 0)) 5)).drew (.slice (some ⟨w.heap.size, 0, none⟩) n n) (List.replicate n 0) := by
  refine ⟨some ⟨w.heap.size, 0, none⟩, n, by rw [List.length_replicate], by rw [List.length_replicate]; exact Nat.le_refl _, by unfold maxLen; omega, fun z hz => by have := List.eq_of_mem_replicate hz; omega, fun e => (by cases e), fun _ => ⟨w.heap.size, 0, rfl, by simp, by omega, fun k hk => ?_⟩⟩
  rw [List.length_replicate] at hk
  rw [Nat.zero_add]
  show (w.alloc (.cells (Array.replicate n (.int .u8 0)) 5)).cell? ⟨w.heap.size, k, none⟩ = _
  rw [cells_new]
  simp [hk, List.getD]
theorem S8.cutmore (ok : E.Ok) (h : S8 E K D f u lim w) {id : Nat} (h1 : 1 <= id) (h2 : id <= E.tn) (hR : E.R id) (hW : E.W id) (hk : K id ≠ 0) {S2 n : Nat} (hS : (D id).length <= S2) (hS2 : S2 <= 4000) (hgr : growb (D id).length S2 = n) (hfree : n <= u) :
    Calls Tryz.prog 65 #[ptr E.tb, .int .i64 id, .int .i64 S2] w fun e w' => e = .returned .nilIface /\ S8 E K (upd D id (grownL (D id) S2)) (f - n) (u - n) lim w' /\ Apart [E.mb] w w' := by
  obtain ⟨mem, wr, M, N, q1, q2, q3, q4, q5, q6, q7, q8⟩ := h
  have hd : (D id).length = (N id).size := by rw [<- q2.data id h1 h2, bytesF_len]
  have hpg := putD_grow (D id) S2 hS
  rw [hd] at hS hgr hpg
  have hx := (q2.says id h1 h2).1
  have hk12 : (N id).kind = 1 \/ (N id).kind = 2 := by
    rcases hx.1 with h' | h'
    · have := q5 id; omega
    · exact h'
  have htn := ok.tn
  have hlts := q1.lts
  have hszb := hx.2.1
  have hgb := growb_range ((N id).size : Int) (S2 : Int)
  have hlenA : ((((N id).list.length + n : Nat)) : Int) = blk S2 := by
    have := hx.2.2.1
    have hge : blk ((N id).size : Int) <= blk (S2 : Int) := by unfold blk; split <;> split <;> (try split) <;> (try split) <;> (try split) <;> (try split) <;> omega
    unfold growb at hgr
    omega
  refine iCut_calls (id := (id : Int)) ⟨by omega, by omega⟩ (Q := fun w' => S8 E K (upd D id (grownL (D id) S2)) (f - n) (u - n) lim w' /\ Apart [E.mb] w w') ?_ ?_ ?_
  · rintro w1 w2 ⟨r1, r2⟩ hB
    exact ⟨r1.more hB, r2.trans (Apart.of_below hB)⟩
  · rintro w1 ⟨r1, -⟩
    exact r1.ground
  refine cut_more (K := (N id).kind) (S := (N id).size) (GAP := S2 - (N id).size) (ks := (N id).list) hS2 (by omega) (q1.load ok q2 id h1 h2 (by rw [q5]; exact hk)) hlts.2.2.2.2.1 (fun w5 xv hB5 hK5 hob => ?_) (Or.inl rfl)
  have hmb5 : E.mb < w5.heap.size := Nat.lt_of_lt_of_le hlts.2.2.2.2.1 hB5.size
  have hBa : Below w5.heap.size w5 (w5.alloc (.cells (Array.replicate (S2 - (N id).size) (.int .u8 0)) 5)).drew := ((Below.refl _ _).alloc (Nat.le_refl _) _).drew
  have hB09 := hB5.trans (hBa.mono hB5.size)
  refine (iput_ok (W := w) (base := w.heap.size) (n := n) (S2 := S2) (q1.more hB09) ok hlts (Apart.of_below hB09) (Nat.le_refl _) (hK5.below hBa) hB09.size (zero_cd E.mb w5 _ (by omega) hmb5) (fun b off l c e ho => ?_) ⟨h1, h2⟩ (by rw [List.length_replicate]; omega) hgr (by omega) (by omega) (by omega) hS2 hlenA (q2.nodup id h1 h2) (q2.mine id h1 h2) ⟨hR, q8.own id h1 h2 hW, q8.opn⟩).mono ?_
  · have g1 := hob b ho.symm
    have e1 := (Value.slice.inj e).1
    simp only [Option.some.injEq, Addr.mk.injEq] at e1
    omega
  · rintro e w' ⟨rfl, l, M', r1, r2, r3, r4, r5⟩
    obtain ⟨t1, t2, t3, t4, t5⟩ := q2.put ok h1 h2 hk12 r1 hgr (by omega) (by rw [List.length_replicate]; omega) (by omega) r2
    rw [hpg] at t1
    refine ⟨rfl, ⟨⟨mem, wr, M', _, r3, t1, q3, q4, fun j => ?_, by omega, by omega, q8.put ok h1 h2 t4 t5 _ _⟩, r4⟩, fun b b1 b2 b3 => r5 b b1 b2 b3⟩
    by_cases hj : j = id
    · subst hj; rw [upd_same]; exact q5 j
    · rw [upd_other _ _ hj]; exact q5 j
end
def cutL (d : List Int) (n : Nat) : List Int := (grownL d n).take n
theorem cutL_len (d : List Int) (n : Nat) : (cutL d n).length = n := by unfold cutL grownL; rw [List.length_take, List.length_append, List.length_replicate]; omega
theorem cutL_less (d : List Int) (n : Nat) (h : n <= d.length) : cutL d n = d.take n := by
  unfold cutL grownL
  rw [show n - d.length = 0 by omega]
  simp
theorem cutL_more (d : List Int) (n : Nat) (h : d.length <= n) : cutL d n = grownL d n := by
  unfold cutL
  rw [List.take_of_length_le]
  unfold grownL
  rw [List.length_append, List.length_replicate]; omega
section
variable {E : TE} {mem : Nat -> Int} {writes : Int} {M : Chg} {w w' : World}
theorem release1_ok {p o q : Nat} {id : Nat} {xa : Option Addr} {xc : Nat} {ks : List Int} {base : Nat} (cp : w.cell? ⟨p, 0, none⟩ = some (ptr E.tb)) (co : w.cell? ⟨o, 0, none⟩ = some (.int .i64 (id : Int))) (cq : w.cell? ⟨q, 2, none⟩ = some (.slice xa ks.length xc)) (hne : p ≠ E.mb /\ o ≠ E.mb /\ q ≠ E.mb)
    (h : E.St mem writes M w) (ok : E.Ok) (hx : Kept base w (.slice xa ks.length xc) ks) (hmb : E.mb < base) (hid : 1 <= id /\ id <= E.tn) (hl : ks.length <= 33) (hnd : ks.Nodup) (hmine : ∀ z ∈ ks, ∃ i, i < E.k /\ z = E.fr + (i : Int) /\ bitM mem M E.ma i = true) (hR : E.R id) :
    Calls Tryz.prog 195 #[ptr p, ptr o, ptr q] w fun e w' => e = .returned .nilIface /\ ∃ M3 M', (∀ no, nowM mem M3 no = if no = E.ta + id - 1 then recL 0 0 [] else nowM mem M no) /\ E.Gave mem M3 M' ks /\ E.St mem writes M' w' /\ Apart [E.mb] w w' := by
  have hlt := h.t.lt
  have kk := hidden (fun (wx : World) (hx : SAp E.mb w wx) => show wx.cell? ⟨p, 0, none⟩ = some (ptr E.tb) /\ wx.cell? ⟨o, 0, none⟩ = some (.int .i64 (id : Int)) /\ wx.cell? ⟨q, 2, none⟩ = some (.slice xa ks.length xc) /\ wx.cell? ⟨E.tb, 0, none⟩ = some (ptr E.cb) from
    ⟨(hx.out.cell (p := ⟨p, 0, none⟩) (lt_of_cell cp) (by simpa using hne.1)).trans cp, (hx.out.cell (p := ⟨o, 0, none⟩) (lt_of_cell co) (by simpa using hne.2.1)).trans co, (hx.out.cell (p := ⟨q, 2, none⟩) (lt_of_cell cq) (by simpa using hne.2.2)).trans cq, (hx.out.cell (p := ⟨E.tb, 0, none⟩) hlt (by simpa using ok.tbm)).trans h.t.c0⟩)
  have hvC := hx.toC hmb
  have htn := ok.tn
  have hta := ok.ta
  have hSd := h.more (below_drew1 w)
  have kHm := hidden (ihome_calls hSd.t id hid.1 (by omega) (by omega))
  have kWr := hidden (iwritten_calls (w := w.drew) 0 0 (by omega) (by omega) (v := .slice none 0 0) (ks := []) ⟨none, 0, rfl, by simp, by decide, fun _ => rfl, fun e => absurd rfl e⟩ (fun z hz => by cases hz))
  have kC1 := hidden (fun (wx : World) (hx : Below w.drew.heap.size w.drew wx) (b : Nat) (hb : OwnB w.drew.heap.size wx b 128 128 (recL 0 0 [])) => show Calls Tryz.prog 170 #[ptr E.cb, .int .i64 ((E.ta + id - 1 : Nat) : Int), .int .i64 0, .slice (some ⟨b, 0, none⟩) 128 128] wx fun e w' => e = .returned .nilIface /\ ∃ M', E.St mem writes M' w' /\ Apart [E.mb] wx w' /\ ∀ i, nowM mem M' i = if i = E.ta + id - 1 then recL 0 0 [] else nowM mem M i from by
    have hr := recL_row (kind := 0) (size := 0) (by omega) (by omega) []
    refine ((hSd.more hx).write ok (ok.recs id hid.1 hid.2 hR) 0 _ _ hb.bytes (by rw [hr.1]; omega)).mono ?_
    rintro e w' ⟨rfl, M', q1, q2, q3⟩
    refine ⟨rfl, M', q1, q2, fun i => ?_⟩
    rw [q3 i]
    congr 1
    unfold layL
    rw [List.take_zero, List.nil_append, Nat.zero_add, hr.1, List.drop_of_length_le (by rw [((hSd.more hx).row _).1]; omega), List.append_nil])
  have kG0 := hidden (fun (w4 : World) (M3 : Chg) (hs : ∀ no, nowM mem M3 no = if no = E.ta + id - 1 then recL 0 0 [] else nowM mem M no) (h4 : E.St mem writes M3 w4) (hA4 : Apart [E.mb] w w4) => show Calls Tryz.prog 196 #[ptr E.tb, .slice xa ks.length xc] w4 fun e w' => e = .returned .nilIface /\ ∃ M', E.Gave mem M3 M' ks /\ E.St mem writes M' w' /\ Apart [E.mb] w4 w' from by
    refine igive_calls h4 ok (hvC w4 hA4) (fun b' off ⟨n', c'', e⟩ => ?_) (by omega) hnd (fun z hz => ?_)
    · obtain ⟨rfl, -, -⟩ := Value.slice.inj e
      have := (hx.row.lt b' rfl).1
      omega
    · obtain ⟨i, i1, i2, i3⟩ := hmine z hz
      refine ⟨i, i1, i2, ?_⟩
      rw [bit_same (E := E) (M := M) (by rw [hs, if_neg (ok.hr i id i1 hid.1 hid.2)])]
      exact i3)
  have hS0 : SAp E.mb w w.drew := SAp.mk (Apart.of_below (bs := [E.mb]) (below_drew1 w))
  clear h hx hvC hmine hnd hSd cp co cq
  replace ok := hidden ok
  generalize ks.length = KL at *
  go_enter Tryz.func195, Tryz.ntmps195
  go_upto_region 1 with fail
  go_cut [4] (fun a wx => a = .nilIface /\ ∃ M3, E.St mem writes M3 wx /\ Apart [E.mb] w wx /\ ∀ no, nowM mem M3 no = if no = E.ta + id - 1 then recL 0 0 [] else nowM mem M no)
  case first =>
    refine wp_region_held_drew (S := SAp E.mb w) (by kernel_rfl) hS0 ?_
    intro _
    refine wpAnyH_take (i := 0) (v := ?_) rfl (by kernel_rfl) (by kernel_rfl) (by kernel_rfl) (fun _ _ _ h => h) (Or.inl ⟨by rfl, ?_⟩) hS0 ?_
    rotate_left
    · intro w hw; have x0 := kk.out _ hw; have m0 := x0.1; clear x0; clear hw; go_simp; try (with_reducible rfl)
    refine wpAnyH_take (i := 1) (v := ?_) rfl (by kernel_rfl) (by kernel_rfl) (by kernel_rfl) (fun _ _ _ h => h) (Or.inl ⟨by rfl, ?_⟩) hS0 ?_
    rotate_left
    · intro w hw; clear hw; go_simp; try (with_reducible rfl)
    refine wpAnyH_take (i := 2) (v := ?_) rfl (by kernel_rfl) (by kernel_rfl) (by kernel_rfl) (fun _ _ _ h => h) (Or.inl ⟨by rfl, ?_⟩) hS0 ?_
    rotate_left
    · intro w hw; clear hw; go_simp; try (with_reducible rfl)
    refine wpAnyH_take (i := 3) (v := ?_) rfl (by kernel_rfl) (by kernel_rfl) (by kernel_rfl) (fun _ _ _ h => h) (Or.inl ⟨by rfl, ?_⟩) hS0 ?_
    rotate_left
    · intro w hw; have x0 := kk.out _ hw; have m0 := x0.2.2.2; clear x0; clear hw; go_simp; try (with_reducible rfl)
    refine wpAnyH_take (i := 4) (v := ?_) rfl (by kernel_rfl) (by kernel_rfl) (by kernel_rfl) (fun _ _ _ h => h) (Or.inl ⟨by rfl, ?_⟩) hS0 ?_
    rotate_left
    · intro w hw; have x0 := kk.out _ hw; have m0 := x0.1; clear x0; clear hw; go_simp; try (with_reducible rfl)
    refine wpAnyH_take (i := 5) (v := ?_) rfl (by kernel_rfl) (by kernel_rfl) (by kernel_rfl) (fun _ _ _ h => h) (Or.inl ⟨by rfl, ?_⟩) hS0 ?_
    rotate_left
    · intro w hw; have x0 := kk.out _ hw; have m0 := x0.2.1; clear x0; clear hw; go_simp; try (with_reducible rfl)
    refine wpAnyH_take (i := 7) (v := ?_) rfl (by kernel_rfl) (by kernel_rfl) (by kernel_rfl) (fun _ _ _ h => h) (Or.inl ⟨by rfl, ?_⟩) hS0 ?_
    rotate_left
    · intro w hw; clear hw; go_simp; try (with_reducible rfl)
    refine wpAnyH_ready (rs := [6]) (by kernel_rfl) (by simp) ?_
    refine AllReadyH.cons rfl (fun K hK => ?_) AllReadyH.nil
    go_simp
    go_wp2_with (go_at_call 171; refine (kHm.out).mono ?_; rintro ev w5 ⟨rfl, rfl⟩)
    refine hK.out _ _ hS0 (fun _ => ?_)
    clear hK K
    refine wpAnyH_ready (rs := [8]) (by kernel_rfl) (by simp) ?_
    refine AllReadyH.cons rfl (fun K hK => ?_) AllReadyH.nil
    go_simp
    go_wp2_with (go_at_call 172; refine (kWr.out).mono ?_; rintro ev w6 ⟨b6, rfl, hO6, hB6⟩)
    refine hK.out _ _ (SAp.more hS0 (Apart.of_below hB6)) (fun hSn1 => ?_)
    clear hK K
    refine wpAnyH_ready (rs := [9]) (by kernel_rfl) (by simp) ?_
    refine AllReadyH.cons rfl (fun K hK => ?_) AllReadyH.nil
    go_simp
    go_wp2_with (go_at_call 170; refine (kC1.out _ hB6 _ hO6).mono ?_; rintro ev w7 ⟨rfl, M7, q1, q2, q3⟩)
    refine hK.out _ _ (SAp.more hSn1 q2) (fun hSn2 => ?_)
    clear hK K
    refine wpAnyH_ready (rs := [10]) (by kernel_rfl) (by simp) ?_
    refine AllReadyH.cons rfl (fun K hK => ?_) AllReadyH.nil
    go_simp
    refine hK.out _ _ hSn2 (fun _ => ?_)
    clear hK K
    refine wpAnyH_done (by kernel_rfl) ?_ _
    have hE7 := hidden (And.intro q1 (And.intro (hSn2).out q3))
    clear q1 q2 q3 hO6 hB6
    go_wp2
    go_meet
    case rel => exact ⟨rfl, M7, hE7.out⟩
  case rest =>
    rename World => w4
    obtain ⟨rfl, M3, g2, g3, g1⟩ := hcut
    have kG := hidden (kG0.out w4 M3 g1 g2 g3)
    have x4 := kk.out _ (SAp.mk g3)
    have d0 := x4.1
    have d2 := x4.2.2.1
    have hE3 := hidden (And.intro g1 g3)
    clear g1 g2 g3 x4
    go_wp2_with fail
    refine (kG.out).mono ?_
    rintro ev w5 ⟨rfl, M5, r1, r2, r3⟩
    have hE5 := hidden (And.intro r1 (And.intro r2 (hE3.out.2.trans r3)))
    clear r1 r2 r3
    go_wp2
    go_ret
    exact ⟨rfl, M3, M5, hE3.out.1, hE5.out⟩
theorem ent_release1 : ∀ (args : Array Value) (w : World), (callFunc 195 args).run Tryz.prog w = .ok (.enter 195 args) w := enters_of Tryz.func195 (by kernel_rfl) rfl
end
section
variable {E : TE} {mem : Nat -> Int} {writes : Int} {M : Chg} {w w' : World}
theorem irelease_ok {id K S : Nat} {ks : List Int} (h : E.St mem writes M w) (ok : E.Ok) (hid : 1 <= id /\ id <= E.tn) (hl : ks.length <= 33) (hnd : ks.Nodup) (hmine : ∀ z ∈ ks, ∃ i, i < E.k /\ z = E.fr + (i : Int) /\ bitM mem M E.ma i = true) (hR : E.R id)
    (kL : ∀ wx, Below w.heap.size w wx -> Calls Tryz.prog 174 #[ptr E.tb, .int .i64 id] wx fun e w' => ∃ v, e = .returned (.tuple #[nodeV K S v, .nilIface]) /\ Kept wx.heap.size w' v ks /\ Below wx.heap.size wx w') :
    Calls Tryz.prog 146 #[ptr E.tb, .int .i64 id] w fun e w' => e = .returned .nilIface /\ ∃ M3 M', (∀ no, nowM mem M3 no = if no = E.ta + id - 1 then recL 0 0 [] else nowM mem M no) /\ E.Gave mem M3 M' ks /\ E.St mem writes M' w' /\ Apart [E.mb] w w' := by
  have hmf : ∀ (fn : Fn) (first cap : Array Value) (w : World), (Instr.makeFunc fn first cap).run Tryz.prog w = .ok (.func fn first cap) w := fun _ _ _ _ => rfl
  have hmbw := h.lts.2.2.2.2.1
  obtain ⟨w2, hw2, hB2, c0, c1, hs2⟩ : ∃ w2, (w.alloc (.cells #[ptr E.tb] 94)).alloc (.cells #[.int .i64 (id : Int)] 3) = w2 /\ Below w.heap.size w w2 /\ w2.cell? ⟨w.heap.size, 0, none⟩ = some (ptr E.tb) /\ w2.cell? ⟨w.heap.size + 1, 0, none⟩ = some (.int .i64 (id : Int)) /\ w2.heap.size = w.heap.size + 2 := by
    generalize e1 : w.alloc (.cells #[ptr E.tb] 94) = W1
    have a1 : W1.cell? ⟨w.heap.size, 0, none⟩ = some (ptr E.tb) := by rw [<- e1]; simp
    have s1 : W1.heap.size = w.heap.size + 1 := by rw [<- e1]; simp
    have hB1 : Below w.heap.size w W1 := by rw [<- e1]; exact (Below.refl _ _).alloc (Nat.le_refl _) _
    have hBx : Below W1.heap.size W1 (W1.alloc (.cells #[.int .i64 (id : Int)] 3)) := (Below.refl _ _).alloc (Nat.le_refl _) _
    refine ⟨_, rfl, hB1.trans (hBx.mono hB1.size), (hBx.cell (p := ⟨w.heap.size, 0, none⟩) (lt_of_cell a1)).trans a1, by rw [<- s1]; simp, by simp [s1]⟩
  have kL2 := hidden (kL w2 hB2)
  have kW := hidden (fun (w5 : World) (q : Nat) (xa : Option Addr) (xc : Nat) (hB5 : Below w2.heap.size w2 w5) (hq : w2.heap.size <= q) (cq : w5.cell? ⟨q, 2, none⟩ = some (.slice xa ks.length xc)) (hK5 : Kept w2.heap.size w5 (.slice xa ks.length xc) ks) => show Calls Tryz.prog 194 #[ptr E.tb, .func (.func 195) #[] #[ptr w.heap.size, ptr (w.heap.size + 1), ptr q]] w5 fun e w' => e = .returned .nilIface /\ ∃ M3 M', (∀ no, nowM mem M3 no = if no = E.ta + id - 1 then recL 0 0 [] else nowM mem M no) /\ E.Gave mem M3 M' ks /\ E.St mem writes M' w' /\ Apart [E.mb] w w' from by
    have hB05 := hB2.trans (hB5.mono hB2.size)
    refine whole_ok ent_release1 (h.more hB05) ok (fun wx hxx => ?_)
    have hB := hB05.trans (hxx.mono hB05.size)
    have hB2x := hB5.trans (hxx.mono hB5.size)
    refine (release1_ok (base := w2.heap.size) ((hB2x.cell (p := ⟨w.heap.size, 0, none⟩) (lt_of_cell c0)).trans c0) ((hB2x.cell (p := ⟨w.heap.size + 1, 0, none⟩) (lt_of_cell c1)).trans c1) ((hxx.cell (p := ⟨q, 2, none⟩) (lt_of_cell cq)).trans cq) ⟨by omega, by omega, by omega⟩ (h.more hB) ok (hK5.below hxx) (by omega) hid hl hnd hmine hR).mono ?_
    rintro e w' ⟨rfl, M3, M', q1, q2, q3, q4⟩
    exact ⟨rfl, M3, M', q1, q2, q3, (Apart.of_below hB).trans q4⟩)
  have hs2' := hidden hs2
  clear h ok hid hl hnd hmine kL hs2
  go_enter Tryz.func146, Tryz.ntmps146
  go_wp2_with fail
  refine (kL2.out).mono ?_
  rintro ev w3 ⟨v, rfl, hK, hB3⟩
  obtain ⟨w5, hw5, hB5, hN5⟩ : ∃ w5, w3.alloc (.cells #[.int .i64 K, .int .i64 S, v] 151) = w5 /\ Below w3.heap.size w3 w5 /\ NdAt w5 w3.heap.size K S v := ⟨_, rfl, (Below.refl _ _).alloc (Nat.le_refl _) _, ⟨by simp, by simp, by simp⟩⟩
  obtain ⟨xa, xc, rfl, -⟩ := hK.form
  have kW5 := hidden (kW.out w5 w3.heap.size xa xc (hB3.trans (hB5.mono hB3.size)) hB3.size hN5.c2 (hK.below hB5))
  have d0 := ((hB3.trans (hB5.mono hB3.size)).cell (p := ⟨w.heap.size, 0, none⟩) (lt_of_cell c0)).trans c0
  clear hK hB3 hB5 hN5 kW kL2 hw2 c0 c1
  go_wp2_with fail
  refine (kW5.out).mono ?_
  rintro ev w7 ⟨rfl, hq⟩
  replace hq := hidden hq
  go_wp2
  go_ret
  exact ⟨rfl, hq.out⟩
end
theorem iFree_calls {tb : Nat} {id : Int} (hi : i64 id) {w : World} {Q : World -> Prop} (hQ : ∀ w1 w2, Q w1 -> Below w1.heap.size w1 w2 -> Q w2) (hG : ∀ w1, Q w1 -> Ground w1)
    (kW : Calls Tryz.prog 146 #[ptr tb, .int .i64 id] w fun e w' => e = .returned .nilIface /\ Q w') :
    Calls Tryz.prog 87 #[ptr tb, .int .i64 id] w fun e w' => e = .returned .nilIface /\ Q w' := by
  replace kW := hidden kW
  replace hi := hidden hi
  go_enter Tryz.func87, Tryz.ntmps87
  go_wp2_with fail
  refine (kW.out).mono ?_
  rintro ev w1 ⟨rfl, hq⟩
  have kA := hidden (about_nil id hi.out w1 (hG _ hq))
  replace hq := hidden hq
  go_wp2_with fail
  refine (kA.out).mono ?_
  rintro ev w2 ⟨rfl, hB2⟩
  have hE := hidden (hQ _ _ hq.out hB2)
  clear hB2
  go_wp2
  go_ret
  exact ⟨rfl, hE.out⟩
section
variable {E : TE} {mem : Nat -> Int} {M : Chg} {N : Nat -> Nd} {D : Nat -> List Int}
theorem Ino.release (h : Ino E mem M N D) (ok : E.Ok) {M6 M' : Chg} {id : Nat} (h1 : 1 <= id) (h2 : id <= E.tn)
    (hs : ∀ no, nowM mem M6 no = if no = E.ta + id - 1 then recL 0 0 [] else nowM mem M no) (hG : E.Gave mem M6 M' (N id).list) :
    Ino E mem M' (upd N id ⟨0, 0, []⟩) (upd D id []) /\ freeN (bitM mem M' E.ma) E.k = freeN (bitM mem M E.ma) E.k + (N id).list.length /\ ∀ i, i < E.k -> bitM mem M' E.ma i = (bitM mem M E.ma i && !decide (((E.fr + i : Nat) : Int) ∈ (N id).list)) := by
  have keep : ∀ no, (∀ i, i < E.k -> no ≠ homeA E.ma i) -> no ≠ E.ta + id - 1 -> nowM mem M' no = nowM mem M no := fun no q1 q2 => by rw [hG.same no q1, hs no, if_neg q2]
  have hbit6 : ∀ i, i < E.k -> bitM mem M6 E.ma i = bitM mem M E.ma i := fun i hi => bit_same (by rw [hs, if_neg (ok.hr i id hi h1 h2)])
  have hother : ∀ b, 1 <= b -> b <= E.tn -> ∀ z ∈ (N b).list, nowM mem M' z.toNat = nowM mem M z.toNat := fun b b1 b2 z hz => by
    obtain ⟨i, i1, i2, i3⟩ := h.mine b b1 b2 z hz
    exact keep _ (fun j hj e => ok.hd j i hj i1 (by omega)) (fun e => ok.dr i id i1 h1 h2 (by omega))
  refine ⟨⟨fun b b1 b2 => ?_, fun b b1 b2 => ?_, fun b b1 b2 z hz => ?_, fun a b a1 a2 b1 b2 hab z hz => ?_, fun b b1 b2 h9 => ?_, fun b b1 b2 => ?_⟩, ?_⟩
  · by_cases hb : b = id
    · subst hb
      rw [upd_same]
      refine ⟨⟨Or.inl ⟨rfl, rfl, rfl⟩, by simp, by simp [blk], by simp⟩, ?_⟩
      rw [hG.same _ (fun i hi e => ok.hr i b hi b1 b2 e.symm), hs, if_pos rfl]
    · rw [upd_other _ _ hb]
      refine ⟨(h.says b b1 b2).1, ?_⟩
      rw [keep _ (fun i hi e => ok.hr i b hi b1 b2 e.symm) (by omega)]
      exact (h.says b b1 b2).2
  · by_cases hb : b = id
    · subst hb; rw [upd_same]; exact List.nodup_nil
    · rw [upd_other _ _ hb]; exact h.nodup b b1 b2
  · by_cases hb : b = id
    · subst hb; rw [upd_same] at hz; cases hz
    · rw [upd_other _ _ hb] at hz
      obtain ⟨i, i1, i2, i3⟩ := h.mine b b1 b2 z hz
      refine ⟨i, i1, i2, ?_⟩
      rw [hG.bits i i1, hbit6 i i1, i3, decide_eq_false (fun hm => h.apart b id b1 b2 h1 h2 hb z hz (by rw [show z = ((E.fr + i : Nat) : Int) by omega]; exact hm))]
      rfl
  · by_cases ha : a = id
    · subst ha; rw [upd_same] at hz; cases hz
    · rw [upd_other _ _ ha] at hz
      by_cases hb : b = id
      · subst hb; rw [upd_same]; intro hm; cases hm
      · rw [upd_other _ _ hb]; exact h.apart a b a1 a2 b1 b2 hab z hz
  · by_cases hb : b = id
    · subst hb; rw [upd_same] at h9; simp at h9
    · rw [upd_other _ _ hb] at h9 ⊢
      rw [hother b b1 b2 _ (getD_mem (by omega))]
      exact h.rest b b1 b2 h9
  · by_cases hb : b = id
    · subst hb
      rw [upd_same, upd_same]
      rfl
    · rw [upd_other _ _ hb, upd_other _ _ hb, <- h.data b b1 b2]
      refine bytesF_congr (fun j hj => ?_)
      have hbo := (h.says b b1 b2).1
      have hix : idxN (j / 128) < (N b).list.length := by
        have := idxN_lt hbo.2.1 (q := j / 128) (by omega)
        have := hbo.2.2.1
        omega
      unfold byteF
      rw [hother b b1 b2 _ (getD_mem hix)]
  · exact ⟨by rw [hG.free, freeN_congr (T := bitM mem M E.ma) E.k hbit6], fun i hi => by rw [hG.bits i hi, hbit6 i hi]⟩
end
section
variable {E : TE} {K : Nat -> Nat} {D : Nat -> List Int} {f u lim : Nat} {w w' : World}
theorem S8.free (ok : E.Ok) (h : S8 E K D f u lim w) {id n : Nat} (h1 : 1 <= id) (h2 : id <= E.tn) (hR : E.R id) (hW : E.W id \/ E.ku = 0) (hk : K id ≠ 0) (hn : blk ((D id).length : Int) = (n : Int)) :
    Calls Tryz.prog 87 #[ptr E.tb, .int .i64 id] w fun e w' => e = .returned .nilIface /\ S8 E (upd K id 0) (upd D id []) (f + n) u lim w' /\ Apart [E.mb] w w' := by
  obtain ⟨mem, wr, M, N, q1, q2, q3, q4, q5, q6, q7, q8⟩ := h
  have hd : (D id).length = (N id).size := by rw [<- q2.data id h1 h2, bytesF_len]
  have hx := (q2.says id h1 h2).1
  have htn := ok.tn
  have hbr := blk_range ((N id).size : Int)
  have hll := hx.2.2.1
  rw [hd] at hn
  refine iFree_calls (id := (id : Int)) ⟨by omega, by omega⟩ (Q := fun w' => S8 E (upd K id 0) (upd D id []) (f + n) u lim w' /\ Apart [E.mb] w w') ?_ ?_ ?_
  · rintro w1 w2 ⟨r1, r2⟩ hB
    exact ⟨r1.more hB, r2.trans (Apart.of_below hB)⟩
  · rintro w1 ⟨r1, -⟩
    exact r1.ground
  refine (irelease_ok (K := (N id).kind) (S := (N id).size) (ks := (N id).list) q1 ok ⟨h1, h2⟩ (by omega) (q2.nodup id h1 h2) (q2.mine id h1 h2) hR (fun wx hx => (q1.more hx).load ok q2 id h1 h2 (by rw [q5]; exact hk))).mono ?_
  rintro e w' ⟨rfl, M3, M', r1, r2, r3, r4⟩
  obtain ⟨t1, t2, t3⟩ := q2.release ok h1 h2 r1 r2
  refine ⟨rfl, ⟨mem, wr, M', _, r3, t1, q3, q4, fun j => ?_, by omega, Nat.le_trans q7 (freeN_up _ (fun i hi hz => by rw [t3 i (Nat.lt_of_lt_of_le hi ok.kuk), hz]; rfl)), q8.cut ok h1 h2 hW t3 (fun z hz => Or.inr hz) (fun z hz => by cases hz) (fun z hz => hz) _ _⟩, r4⟩
  by_cases hj : j = id
  · subst hj; rw [upd_same, upd_same]
  · rw [upd_other _ _ hj, upd_other _ _ hj]; exact q5 j
end
end Go.Proofs.YtpofmiecjkghgaaGreatDoor
