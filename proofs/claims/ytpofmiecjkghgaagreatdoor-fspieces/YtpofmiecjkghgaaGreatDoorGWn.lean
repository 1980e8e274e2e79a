/- A file put in another's place in its own directory: move. -/
import Derived.Test.YtpofmiecjkghgaaGreatDoorGXd
import Derived.Test.YtpofmiecjkghgaaGreatDoorGWm
import Derived.Deep.RegionHeld
import Derived.Test.YtpofmiecjkghgaaGreatDoorGXf
namespace Go.Proofs.YtpofmiecjkghgaaGreatDoor
open Go.RowKit Go.Extern.Stop Go.Stop Go.Extern Go.Maps Go.Sort Go.Shelf
set_option maxRecDepth 1000000
structure MvS (nb b8 b9 b11 : Nat) (RY RI : Int) (va : Option Addr) (LL vc : Nat) (s : ByteArray) (db : Nat) (va8 : Option Addr) (vc8 : Nat) (t : ByteArray) (db2 : Nat) (w : World) : Prop where
  g : FnAt w nb RY 1
  x : FnAt w b9 RI 1
  s : SpAt w b8 (.slice va LL vc) s (ptr db)
  t : SpAt w b11 (.slice va8 LL vc8) t (ptr db2)
theorem MvS.keep {nb b8 b9 b11 : Nat} {RY RI : Int} {va : Option Addr} {LL vc : Nat} {s : ByteArray} {db : Nat} {va8 : Option Addr} {vc8 : Nat} {t : ByteArray} {db2 : Nat} {w w' : World} {bs : List Nat} (h : MvS nb b8 b9 b11 RY RI va LL vc s db va8 vc8 t db2 w) (ha : Apart bs w w') (h1 : nb ∉ bs) (h2 : b8 ∉ bs) (h3 : b9 ∉ bs) (h4 : b11 ∉ bs) : MvS nb b8 b9 b11 RY RI va LL vc s db va8 vc8 t db2 w' := ⟨h.g.keep ha h1, h.x.keep ha h3, h.s.keep ha h2, h.t.keep ha h4⟩
section
variable {fb rs hb : Nat} {E : TE} {w w' : World} {K : Nat -> Nat} {D : Nat -> List Int} {T : Nat -> List Rec} {f u lim : Nat}
structure OversT (K : Nat -> Nat) (T : Nat -> List Rec) (tn : Nat) (a b : List UInt8) (l : List (List UInt8)) (s t : List UInt8) (p i0 j i : Nat) (r ry : Rec) (lv : List (List Nat)) : Prop where
  la : a.length <= 2000
  lb : b.length <= 2000
  pa : splitB a = some (l ++ [s])
  pb : splitB b = some (l ++ [t])
  ne : a ≠ b
  out : withinB b a = false
  dir : dirT K T l = .ok p
  at_ : (T p)[i0]? = some r
  name : r.s = s
  aty : (T p)[j]? = some ry
  namey : ry.s = t
  at2 : (dropR (T p) j)[i]? = some r
  file : K r.id = 1
  filey : K ry.id = 1
  no : ∀ q ∈ dropR (dropR (T p) j) i, q.s ≠ t
  lvok : LvOk K T tn r.id lv
  fit : l.length + 1 + lv.length <= 7
  few : (T p).length <= 120
set_option maxHeartbeats 8000000 in
theorem move_over (hF : FsAt fb E rs hb w) (hfar : FsAt.Far fb E) (hnh : HNo fb hb E w) (h : S8 E K D f u lim w) (ok : E.Ok) (ht : TreeOk E.tn K D T) (htn : 1 <= E.tn) {a b s t : List UInt8} {l : List (List UInt8)} {p i0 j i : Nat} {r ry : Rec} {lv : List (List Nat)} (m : OversT K T E.tn a b l s t p i0 j i r ry lv) (hR : E.R p) (hW : E.W p) (hRy : E.R ry.id) (hWy : E.W ry.id) {n : Nat} (hn : blk ((D ry.id).length : Int) = (n : Int)) (hfit : bkL ((T p).length - 1) <= bkL ((T p).length - 1 - 1) + u) :
    Calls Tryz.prog 75 #[ptr fb, .string (mkB a), .string (mkB b)] w fun e w' => e = .returned (.tuple #[fnV (ry.id : Nat) 1, .nilIface]) /\ (∃ f', f' + bkL ((T p).length - 1) = f + bkL (T p).length + n /\ S8 E (upd K ry.id 0) (overD D (T p) p j i ry.id ⟨t, r.id⟩) f' 0 lim w') /\ Apart [E.mb] w w' := by
  have hmp := may_all (split_may m.pb)
  have hl6 : l.length <= 6 := by have := hmp.1; rw [List.length_append] at this; omega
  have hdin : 1 <= p /\ p <= E.tn /\ K p = 2 := by
    have hd := m.dir
    unfold dirT at hd
    cases hw : walkT K T 1 l with
    | error z => rw [hw] at hd; cases hd
    | ok q =>
      rw [hw] at hd
      have h' : (if K q = 2 then Except.ok q else Except.error (14 : Int)) = Except.ok p := hd
      by_cases hk : K q = 2
      · rw [if_pos hk] at h'
        obtain rfl := Except.ok.inj h'
        have := walkT_in ht l 1 q (Nat.le_refl _) htn (by rw [ht.root]; decide) hw
        exact ⟨this.1, this.2.1, hk⟩
      · rw [if_neg hk] at h'; cases h'
  obtain ⟨p1, p2, hkp⟩ := hdin
  obtain ⟨hD, hG⟩ := ht.recs p p1 p2 hkp
  have hrm := List.mem_of_getElem? m.at_
  obtain ⟨hrt, hrk⟩ := ht.used p p1 p2 hkp r hrm
  have hym := List.mem_of_getElem? m.aty
  obtain ⟨hyt, hyk'⟩ := ht.used p p1 p2 hkp ry hym
  have htn200 : E.tn <= 200 := by have := ok.tn; omega
  have hr1 : 1 <= r.id := (hG.each r hrm).lo
  obtain ⟨w1, hw1, hB1, hN1⟩ : ∃ w1, w.alloc (Obj.cells #[.int .i64 0, .int .i64 0] 105) = w1 /\ Below w.heap.size w w1 /\ FnAt w1 w.heap.size 0 0 := ⟨_, rfl, (Below.refl _ _).alloc (Nat.le_refl _) _, fn_new _ _ _⟩
  have kSp := hidden (fun (wx : World) (hx : Below w.heap.size w wx) => And.intro (fspot_calls (hF.below hx) (h.more hx) ok ht htn m.la m.pa) (fspot_calls (hF.below hx) (h.more hx) ok ht htn m.lb m.pb))
  have kC := hidden (fun (wx : World) (hx : Below w.heap.size w wx) (db : Nat) (hd : DirAt E db p wx) => And.intro (child_at (hF.below hx) (h.more hx) ok p1 p2 hkp hD hG hd m.at_ hrt hrk) (child_at (hF.below hx) (h.more hx) ok p1 p2 hkp hD hG hd m.aty hyt hyk'))
  rw [m.name, m.namey, m.filey] at kC
  have kW := hidden (fun (wx : World) => within_calls b a wx m.lb m.la)
  rw [m.out] at kW
  have hKx := m.file
  have kFi := hidden (fun (wx : World) (hx : Below w.heap.size w wx) => fits_ok (hF.below hx) (h.more hx) ok ht hr1 hrt m.lvok m.lb m.pb (by rw [List.length_append]; have := m.fit; simp; omega))
  have kE := hidden (fun (wx : World) (hx : Below w.heap.size w wx) (db db2 : Nat) (hd : DirAt E db p wx) (hd2 : DirAt E db2 p wx) (va va2 : Option Addr) (vn vc vn2 vc2 : Nat) => replace_same (fb := fb) (hF.below hx) hfar (hnh.below hx) (h.more hx) ok p1 p2 hkp hD hG hd hd2 m.aty m.at2 hyt m.filey (by omega) (by rw [m.namey]; exact m.no) hR hW hRy hWy hn m.few hfit va va2 vn vc vn2 vc2)
  rw [m.name, m.namey] at kE
  rw [hKx] at kFi kC
  have hdir := hidden m.dir
  have hne : ((mkB a).toList == (mkB b).toList) = false := by rw [mk_beq]; exact decide_eq_false m.ne
  have hBN := hidden (And.intro hB1 hN1)
  have hmbl : E.mb < w.heap.size := h.lts.2.2.2.2.1
  clear hF hfar hnh h ok ht hG hD hB1 hN1 hR hW hRy hWy m hmp hrm hrk hym hyt hyk' hn hfit
  go_enter Tryz.func75, Tryz.ntmps75
  go_wp2_with fail
  refine ((kSp.out w1 hBN.out.1).1).mono ?_
  rintro ev w2 ⟨(⟨q, v2, db, hq, rfl, hT2, hD2, hdb, -, -, -⟩ | ⟨z, bk, nm, hq, -⟩), hB2⟩
  rotate_left
  · rw [hdir.out] at hq; cases hq
  obtain rfl : q = p := by rw [hdir.out] at hq; exact (Except.ok.inj hq).symm
  have hT2h := hidden hT2
  obtain ⟨va, vc, rfl, -⟩ := hT2
  obtain ⟨w3, hw3, hB3, hS3⟩ : ∃ w3, w2.alloc (.cells #[.slice va l.length vc, .string (mkB s), ptr db] 166) = w3 /\ Below w2.heap.size w2 w3 /\ SpAt w3 w2.heap.size (.slice va l.length vc) (mkB s) (ptr db) := ⟨_, rfl, (Below.refl _ _).alloc (Nat.le_refl _) _, sp_new _ _ _ _⟩
  have hb2 : Below w.heap.size w w2 := hBN.out.1.trans (hB2.mono hBN.out.1.size)
  have o8 : w.heap.size < w2.heap.size := by have := hBN.out.2.lt; have := hB2.size; omega
  have od : w.heap.size < db := by have := hBN.out.2.lt; omega
  have hb3 : Below w.heap.size w w3 := hb2.trans (hB3.mono hb2.size)
  have s1 := hS3.c1
  have s2 := hS3.c2
  have l3 := hS3.lt
  have kC3 := hidden (kC.out w3 hb3 db (hD2.below hB3)).1
  have hN3 := hidden ((hBN.out.2.below hB2).below hB3)
  have hK3 := hidden (And.intro (hT2h.out.below hB3) (And.intro (hD2.below hB3) hS3))
  replace hb3 := hidden hb3
  replace hw3 := hidden hw3
  clear hT2h hD2 hS3 hB2 hB3 hb2 hBN hq
  generalize hLL : l.length = LL at *
  generalize hf8 : w2.heap.size = b8 at *
  go_upto_region 2 with fail
  rw [hw3.out]
  clear hw3
  go_wp2_with fail
  refine (kC3.out).mono ?_
  rintro ev w4 ⟨rfl, hB4⟩
  obtain ⟨w5, hw5, hB5, hN5⟩ : ∃ w5, w4.alloc (.cells #[.int .i64 (r.id : Nat), .int .i64 1] 105) = w5 /\ Below w4.heap.size w4 w5 /\ FnAt w5 w4.heap.size (r.id : Nat) 1 := ⟨_, rfl, (Below.refl _ _).alloc (Nat.le_refl _) _, fn_new _ _ _⟩
  have o9 : w.heap.size < w4.heap.size := by have := hN3.out.lt; have := hB4.size; omega
  have hb35 : Below w3.heap.size w3 w5 := hB4.trans (hB5.mono hB4.size)
  have hb5 : Below w.heap.size w w5 := hb3.out.trans (hb35.mono hb3.out.size)
  have x0 := hN5.c0
  have x1 := hN5.c1
  have l5 := hN5.lt
  have hK5 := hidden (And.intro (hK3.out.1.below hb35) (And.intro (hK3.out.2.1.below hb35) (And.intro (hK3.out.2.2.below hb35) (And.intro hN5 (hN3.out.below hb35)))))
  replace hb5 := hidden hb5
  replace hw5 := hidden hw5
  clear hB4 hB5 hN5 hb35 kC3 hK3 hN3 hb3 s1 s2 l3
  generalize hRI : ((r.id : Nat) : Int) = RI at *
  generalize hRY : ((ry.id : Nat) : Int) = RY at *
  generalize hf9 : w4.heap.size = b9 at *
  go_upto_region 5 with fail
  rw [hw5.out]
  clear hw5
  go_wp2_with fail
  refine (kW.out _).mono ?_
  rintro ev w6 ⟨rfl, hB6⟩
  have hK6 := hK5.out.2.2.2.1.below hB6
  have y0 := hK6.c0
  have y1 := hK6.c1
  have l6 := hK6.lt
  have hb6 : Below w.heap.size w w6 := hb5.out.trans (hB6.mono hb5.out.size)
  have kF6 := hidden (kFi.out w6 hb6)
  replace hb6 := hidden hb6
  replace hB6 := hidden hB6
  clear hK6 kW x0 x1 l5
  go_wp2_with fail
  refine (kF6.out).mono ?_
  rintro ev w7 ⟨rfl, hB7⟩
  have hb7 : Below w.heap.size w w7 := hb6.out.trans (hB7.mono hb6.out.size)
  have kS7 := hidden (kSp.out w7 hb7).2
  have hb57 := hidden (hB6.out.trans (hB7.mono hB6.out.size))
  replace hb7 := hidden hb7
  clear hB7 kF6 kFi kSp y0 y1 l6 hb6 hB6
  go_wp2_with fail
  refine (kS7.out).mono ?_
  rintro ev w8 ⟨(⟨q2, v8, db2, hq2, rfl, hT8, hD8, hdb8, -, -, -⟩ | ⟨z, bk, nm, hq2, -⟩), hB8⟩
  rotate_left
  · rw [hdir.out] at hq2; cases hq2
  obtain rfl : q2 = q := by rw [hdir.out] at hq2; exact (Except.ok.inj hq2).symm
  have hT8h := hidden hT8
  obtain ⟨va8, vc8, rfl, -⟩ := hT8
  rw [hLL] at hT8h ⊢
  obtain ⟨w9, hw9, hB9, hS9⟩ : ∃ w9, w8.alloc (.cells #[.slice va8 LL vc8, .string (mkB t), ptr db2] 166) = w9 /\ Below w8.heap.size w8 w9 /\ SpAt w9 w8.heap.size (.slice va8 LL vc8) (mkB t) (ptr db2) := ⟨_, rfl, (Below.refl _ _).alloc (Nat.le_refl _) _, sp_new _ _ _ _⟩
  have o11 : w.heap.size < w8.heap.size := by have := hK5.out.2.2.2.2.lt; have := hb57.out.size; have := hB8.size; omega
  have od2 : w.heap.size < db2 := by have := hK5.out.2.2.2.2.lt; have := hb57.out.size; omega
  have hb79 : Below w7.heap.size w7 w9 := hB8.trans (hB9.mono hB8.size)
  have hb59 : Below w5.heap.size w5 w9 := hb57.out.trans (hb79.mono hb57.out.size)
  have hb9 : Below w.heap.size w w9 := hb7.out.trans (hb79.mono hb7.out.size)
  have s1 := hS9.c1
  have s2 := hS9.c2
  have l9 := hS9.lt
  have kC9 := hidden (kC.out w9 hb9 db2 (hD8.below hB9)).2
  have hK9 := hidden (And.intro (hK5.out.1.below hb59) (And.intro (hK5.out.2.1.below hb59) (And.intro (hK5.out.2.2.1.below hb59) (And.intro (hK5.out.2.2.2.1.below hb59) (And.intro (hK5.out.2.2.2.2.below hb59) (And.intro (hT8h.out.below hB9) (And.intro hS9 (hD8.below hB9))))))))
  replace hb9 := hidden hb9
  replace hw9 := hidden hw9
  clear hT8h hD8 hS9 hB8 hB9 hb79 hb59 hb57 hK5 hb5 hb7 kS7 hq2 kC hdb8
  generalize hf11 : w8.heap.size = b11 at *
  go_upto_region 15 with fail
  rw [hw9.out]
  clear hw9
  go_wp2_with fail
  refine (kC9.out).mono ?_
  rintro ev wA ⟨rfl, hBA⟩
  obtain ⟨kT1, kD1, kS1, kX1, kN1, kT2, kS2, kD2⟩ := hK9.out
  have hNA := kN1.below hBA
  have r0 := hNA.c0
  have r1 := hNA.c1
  have g0 := hNA.f0
  have g1 := hNA.f1
  have lA := hNA.lt
  have hbA : Below w.heap.size w wA := hb9.out.trans (hBA.mono hb9.out.size)
  obtain ⟨wG, hwG, hAG, hNG⟩ : ∃ wG, (wA.setCell ⟨w.heap.size, 0, none⟩ (.int .i64 RY)).setCell ⟨w.heap.size, 1, none⟩ (.int .i64 1) = wG /\ Apart [w.heap.size] wA wG /\ FnAt wG w.heap.size RY 1 := ⟨_, rfl, fn_apart _ _ _ _, fn_stored hNA⟩
  have hbG : Below w.heap.size w wG := hbA.trans (hAG.below (by simp) hbA.size)
  have q8 : b8 ∉ [w.heap.size] := by simp; omega
  have q9 : b9 ∉ [w.heap.size] := by simp; omega
  have q11 : b11 ∉ [w.heap.size] := by simp; omega
  have hM := hidden (show MvS w.heap.size b8 b9 b11 RY RI va LL vc (mkB s) db va8 vc8 (mkB t) db2 wG from ⟨hNG, (kX1.below hBA).keep hAG q9, (kS1.below hBA).keep hAG q8, (kS2.below hBA).keep hAG q11⟩)
  have kEA := hidden (kE.out wG.drew (hbG.trans ((below_drew1 wG).mono hbG.size)) db db2 (((kD1.below hBA).keep hAG (by simp; omega)).below (below_drew1 wG)) (((kD2.below hBA).keep hAG (by simp; omega)).below (below_drew1 wG)) va va8 LL vc LL vc8)
  have kIs := hidden (is_nil 11 wG)
  have hl1 : w.heap.size ∉ [E.mb] := by simp; omega
  have hl8 : b8 ∉ [E.mb] := by simp; omega
  have hl9 : b9 ∉ [E.mb] := by simp; omega
  have hl11 : b11 ∉ [E.mb] := by simp; omega
  replace hbG := hidden (hbG.trans ((below_drew1 wG).mono hbG.size))
  replace hwG := hidden hwG
  clear kT1 kD1 kS1 kX1 kN1 kT2 kS2 kD2 hNA hBA kC9 kE hK9 hb9 s1 s2 l9 hAG hNG hbA q8 q9 q11
  go_upto_region 18 with fail
  rw [hwG.out]
  clear hwG r0 r1 g0 g1 lA
  go_wp2_with fail
  refine (kIs.out).mono ?_
  rintro ev wB ⟨rfl, hwB⟩
  subst wB
  clear kIs
  go_upto_region 22 with fail
  have hS0 := hidden (hM.out.keep (Apart.of_below (bs := []) (below_drew1 wG)) (by simp) (by simp) (by simp) (by simp))
  refine wp_region_held_drew (S := MvS w.heap.size b8 b9 b11 RY RI va LL vc (mkB s) db va8 vc8 (mkB t) db2) (by kernel_rfl) hS0.out ?_
  intro _
  generalize wG.drew = wd at *
  refine wpAnyH_take (i := 0) (v := ?_) rfl (by kernel_rfl) (by kernel_rfl) (by kernel_rfl) (fun _ _ _ h => h) (Or.inl ⟨by rfl, ?_⟩) hS0.out ?_
  rotate_left
  · intro w hw; have hh := (hw).g; have c0 := hh.c0; have c1 := hh.c1; have lc := hh.lt; clear hh; clear hw; go_simp; try (with_reducible rfl)
  refine wpAnyH_take (i := 1) (v := ?_) rfl (by kernel_rfl) (by kernel_rfl) (by kernel_rfl) (fun _ _ _ h => h) (Or.inl ⟨by rfl, ?_⟩) hS0.out ?_
  rotate_left
  · intro w hw; clear hw; go_simp; try (with_reducible rfl)
  refine wpAnyH_take (i := 2) (v := ?_) rfl (by kernel_rfl) (by kernel_rfl) (by kernel_rfl) (fun _ _ _ h => h) (Or.inl ⟨by rfl, ?_⟩) hS0.out ?_
  rotate_left
  · intro w hw; have hh := (hw).x; have c0 := hh.c0; have c1 := hh.c1; have lc := hh.lt; clear hh; clear hw; go_simp; try (with_reducible rfl)
  refine wpAnyH_take (i := 3) (v := ?_) rfl (by kernel_rfl) (by kernel_rfl) (by kernel_rfl) (fun _ _ _ h => h) (Or.inl ⟨by rfl, ?_⟩) hS0.out ?_
  rotate_left
  · intro w hw; have hh := (hw).g; have c0 := hh.c0; have c1 := hh.c1; have lc := hh.lt; clear hh; clear hw; go_simp; try (with_reducible rfl)
  refine wpAnyH_take (i := 4) (v := ?_) rfl (by kernel_rfl) (by kernel_rfl) (by kernel_rfl) (fun _ _ _ h => h) (Or.inl ⟨by rfl, ?_⟩) hS0.out ?_
  rotate_left
  · intro w hw; have hh := (hw).s; have c0 := hh.c0; have c1 := hh.c1; have c2 := hh.c2; have lc := hh.lt; clear hh; clear hw; go_simp; try (with_reducible rfl)
  refine wpAnyH_ready (rs := [5]) (by kernel_rfl) (by simp) ?_
  refine AllReadyH.cons rfl (fun K hK => ?_) AllReadyH.nil
  have hh := (hS0.out).t; have c0 := hh.c0; have c1 := hh.c1; have c2 := hh.c2; have lc := hh.lt; clear hh
  go_simp
  refine hK.out _ _ hS0.out (fun _ => ?_)
  clear hK K
  refine wpAnyH_ready (rs := [6]) (by kernel_rfl) (by simp) ?_
  refine AllReadyH.cons rfl (fun K hK => ?_) AllReadyH.nil
  go_simp
  go_wp2_with (go_at_call 137; refine (kEA.out).mono ?_; rintro ev w6 ⟨rfl, hS6, hA6⟩)
  refine hK.out _ _ (MvS.keep hS0.out hA6 hl1 hl8 hl9 hl11) (fun hSn1 => ?_)
  have hE := hidden (And.intro hS6 (show Apart [E.mb] w w6 from (Apart.of_below hbG.out).trans hA6))
  clear hS6 hA6 kEA
  clear hK K
  refine wpAnyH_ready (rs := [7]) (by kernel_rfl) (by simp) ?_
  refine AllReadyH.cons rfl (fun K hK => ?_) AllReadyH.nil
  have hh := (hSn1).g; have r0 := hh.c0; have r1 := hh.c1; have g0 := hh.f0; have g1 := hh.f1; have lg := hh.lt; have e0 := setCell_self r0; have e1 := setCell_self r1; clear hh
  go_simp
  refine hK.out _ _ (hSn1) (fun hSn2 => ?_)
  clear r0 r1 g0 g1 lg e0 e1
  clear hK K
  refine wpAnyH_ready (rs := [8]) (by kernel_rfl) (by simp) ?_
  refine AllReadyH.cons rfl (fun K hK => ?_) AllReadyH.nil
  go_simp
  refine hK.out _ _ hSn2 (fun _ => ?_)
  clear hK K
  refine wpAnyH_done (by kernel_rfl) ?_ _
  go_wp2
  (try simp only [Exit.inBlock, Exit.then])
  exact bodyPost_ret (ret_fnode rfl rfl (hSn2).g) rfl ⟨by rw [hRY]; rfl, hE.out.1, hE.out.2⟩
end
set_option maxRecDepth 100000
section
variable {fb rs hb : Nat} {E : TE} {w w' : World} {K : Nat -> Nat} {D : Nat -> List Int} {T : Nat -> List Rec} {f u lim : Nat}
def overR (L : List Rec) (j i : Nat) (r : Rec) : List Rec := dropR (dropR L j) i ++ [r]
theorem TreeOk.over {tn p i0 j i : Nat} {a b s t : List UInt8} {l : List (List UInt8)} {r ry : Rec} {lv : List (List Nat)} (ht : TreeOk tn K D T) (p1 : 1 <= p) (p2 : p <= tn) (hk : K p = 2) (m : OversT K T tn a b l s t p i0 j i r ry lv) (htok : okB t = true)
    (hu : ∀ q, 1 <= q -> q <= tn -> K q = 2 -> ∀ x ∈ upd T p (overR (T p) j i ⟨t, r.id⟩) q, x.id <= tn /\ K x.id ≠ 0 /\ x.id ≠ ry.id) :
    TreeOk tn (upd K ry.id 0) (overD D (T p) p j i ry.id ⟨t, r.id⟩) (upd T p (overR (T p) j i ⟨t, r.id⟩)) := by
  obtain ⟨hD, hG⟩ := ht.recs p p1 p2 hk
  have hj : j < (T p).length := (List.getElem?_eq_some_iff.1 m.aty).1
  have hi : i < (dropR (T p) j).length := (List.getElem?_eq_some_iff.1 m.at2).1
  have hrg := hG.each r (List.mem_of_getElem? m.at_)
  have hG2 : GoodL (overR (T p) j i ⟨t, r.id⟩) := ((hG.drop hj).drop hi).put (r := ⟨t, r.id⟩) ⟨htok, hrg.lo, hrg.hi⟩ m.no
  have hKq : ∀ q, upd K ry.id 0 q = 2 -> q ≠ ry.id /\ K q = 2 := fun q hq => by
    by_cases e : q = ry.id
    · rw [e, upd_same] at hq; cases hq
    · rw [upd_other _ _ e] at hq; exact ⟨e, hq⟩
  have h1 : (1 : Nat) ≠ ry.id := fun e => by have := m.filey; rw [<- e, ht.root] at this; cases this
  refine ⟨by rw [upd_other _ _ h1]; exact ht.root, fun q q1 q2 hq => ?_, fun q q1 q2 hq x hx => ?_⟩
  · obtain ⟨hne, hq⟩ := hKq q hq
    unfold overD
    by_cases hqp : q = p
    · subst hqp
      rw [upd_same, upd_same]
      exact ⟨rfl, hG2⟩
    · rw [upd_other _ _ hqp, upd_other _ _ hqp, upd_other _ _ hne, upd_other _ _ hqp]
      exact ht.recs q q1 q2 hq
  · obtain ⟨hne, hq⟩ := hKq q hq
    obtain ⟨u1, u2, u3⟩ := hu q q1 q2 hq x hx
    exact ⟨u1, by rw [upd_other _ _ u3]; exact u2⟩
theorem bkL_step (n : Nat) (hn : n <= 124) : bkL (n + 1) <= bkL n + 2 := by
  have e1 := bkL_eq n
  have e2 := bkL_eq (n + 1)
  unfold blk at e1 e2
  split at e1 <;> split at e2 <;> (try split at e1) <;> (try split at e2) <;> (try split at e1) <;> (try split at e2) <;> omega
set_option maxHeartbeats 4000000 in
theorem rename_over (h : Fsz fb rs hb E K D T f lim w) (hno : HNo fb hb E w) {a b s t : List UInt8} {l : List (List UInt8)} {p i0 j i : Nat} {r ry : Rec} {lv : List (List Nat)} (m : OversT K T E.tn a b l s t p i0 j i r ry lv) (hf2 : 2 <= f) {n : Nat} (hn : blk ((D ry.id).length : Int) = (n : Int))
    (hu : ∀ q, 1 <= q -> q <= E.tn -> K q = 2 -> ∀ x ∈ upd T p (overR (T p) j i ⟨t, r.id⟩) q, x.id <= E.tn /\ K x.id ≠ 0 /\ x.id ≠ ry.id) (hlim : lim <= 300000000) :
    Calls Tryz.prog 38 #[ptr fb, .string (mkB a), .string (mkB b)] w fun e w' => e = .returned .nilIface /\ (∃ f', f' + bkL ((T p).length - 1) = f + bkL (T p).length + n /\ Fsz fb rs hb E.rest (upd K ry.id 0) (overD D (T p) p j i ry.id ⟨t, r.id⟩) (upd T p (overR (T p) j i ⟨t, r.id⟩)) f' (lim + 1000) w') /\ E.Turns fb w w' := by
  have hpl := h.pl
  have htn1 := hpl.tn1
  obtain ⟨p1, p2, hk⟩ := dirT_in h.tree htn1 m.dir
  obtain ⟨hDp, hGp⟩ := h.tree.recs p p1 p2 hk
  have htok : okB t = true := (may_all (split_may m.pb)).2 t (by simp)
  have hym := List.mem_of_getElem? m.aty
  obtain ⟨hyt, -⟩ := h.tree.used p p1 p2 hk ry hym
  have hy1 : 1 <= ry.id := (hGp.each ry hym).lo
  have hlen := m.few
  have hsum : sumL D [p, ry.id] = bkL (T p).length + n := by
    show (blk ((D p).length : Int)).toNat + ((blk ((D ry.id).length : Int)).toNat + 0) = _
    rw [hDp, recsL_len hGp.each, hn]
    rfl
  have hbk : bkL (T p).length <= 40 := by
    have e := bkL_eq (T p).length
    unfold blk at e
    split at e <;> (try split at e) <;> (try split at e) <;> omega
  have hn40 : n <= 40 := by have := blk_range ((D ry.id).length : Int); omega
  obtain ⟨A, U, ku, ok', -, hS'⟩ := h.s.re hpl [p, ry.id] [p, ry.id] (fun x hx => by simp at hx; rcases hx with rfl | rfl <;> omega) (fun x hx => by simp at hx; rcases hx with rfl | rfl <;> omega) 2 hf2 (by rw [hsum]; show 2 + 2 + _ + 2 <= 87; omega)
  have hfar := h.far
  have hah := h.s.to.lts
  have hfbl := h.at_.lt
  have hfit : bkL ((T p).length - 1) <= bkL ((T p).length - 1 - 1) + 2 := by
    rcases Nat.lt_or_ge 0 ((T p).length - 1) with h0 | h0
    · have := bkL_step ((T p).length - 1 - 1) (by omega)
      rw [show (T p).length - 1 - 1 + 1 = (T p).length - 1 by omega] at this
      exact this
    · rw [show (T p).length - 1 = 0 by omega]
      simp
  refine rename_via (E := E.rest) (rs := rs) (hb := hb) (Q := fun w' => (∃ f', f' + bkL ((T p).length - 1) = f + bkL (T p).length + n /\ Fsz fb rs hb E.rest (upd K ry.id 0) (overD D (T p) p j i ry.id ⟨t, r.id⟩) (upd T p (overR (T p) j i ⟨t, r.id⟩)) f' (lim + 1000) w') /\ E.Turns fb w w') m.la m.lb m.pa m.pb (by simp) (by simp) (fun w1 w2 hq hB => ⟨by obtain ⟨f', g1, g2⟩ := hq.1; exact ⟨f', g1, g2.below hB⟩, hq.2.trans (Apart.of_below hB)⟩) (fun wx b0 b1 b2 b3 hx hb0 hb3 hbx => ?_)
  have hF' : FsAt fb (E.at A U (· ∈ [p, ry.id]) (· ∈ [p, ry.id]) ku) rs hb wx := (h.at_.below hx).at _ _ _ _ _
  have hSx := (hS'.more hx).to
  have hHx : HNo fb hb (E.at A U (· ∈ [p, ry.id]) (· ∈ [p, ry.id]) ku) wx := ⟨(hno.below hx).no, hno.ne⟩
  have kM := move_over hF' hfar hHx hSx ok' h.tree htn1 m (show p ∈ [p, ry.id] by simp) (show p ∈ [p, ry.id] by simp) (show ry.id ∈ [p, ry.id] by simp) (show ry.id ∈ [p, ry.id] by simp) hn hfit
  have hmb3 : b3 ≠ E.mb := by unfold TE.Ahead at hah; omega
  have hb03 : b0 ≠ b3 := fun e => by
    have c0 := hbx.c0
    rw [e, hbx.n.c0] at c0
    cases c0
  have hi64 : i64 ((ry.id : Nat) : Int) := by have := ok'.tn; have : ry.id <= (E.at A U (· ∈ [p, ry.id]) (· ∈ [p, ry.id]) ku).tn := hyt; unfold i64; omega
  obtain ⟨F, hFe⟩ : ∃ F, F = f + bkL (T p).length + n - bkL ((T p).length - 1) := ⟨_, rfl⟩
  have hb0l := lt_of_cell (a := ⟨b0, 0, none⟩) hbx.c0
  have hb0m : b0 ∉ [E.mb] := by unfold TE.Ahead at hah; simp; omega
  have kR := rename1_ok (x := ((ry.id : Nat) : Int)) (k := 1) (Q := fun w1 => (Apart [E.mb] w w1 /\ w1.cell? ⟨b0, 0, none⟩ = some (ptr fb) /\ F + bkL ((T p).length - 1) = f + bkL (T p).length + n) /\ FsAt fb (E.at A U (· ∈ [p, ry.id]) (· ∈ [p, ry.id]) ku) rs hb w1 /\ S8 (E.at A U (· ∈ [p, ry.id]) (· ∈ [p, ry.id]) ku) (upd K ry.id 0) (overD D (T p) p j i ry.id ⟨t, r.id⟩) F 0 lim w1) hbx (kM.mono (by
    rintro e w1 ⟨rfl, ⟨f', g1, g2⟩, hA1⟩
    have hA1' : Apart [E.mb] wx w1 := hA1
    have hN1 := hbx.n.keep hA1' (by simpa using hmb3)
    refine ⟨rfl, hN1, ?_⟩
    have hAS := fn_apart w1 b3 (.int .i64 (ry.id : Nat)) (.int .i64 1)
    have hAw : Apart [E.mb] w w1 := (Apart.of_below hx).trans hA1'
    have c1 := (hA1'.cell (p := ⟨b0, 0, none⟩) hb0l hb0m).trans hbx.c0
    have hBS := hAS.below (B := w.heap.size) (by simpa using hb3) hAw.size
    have hfF : f' = F := by omega
    rw [hfF] at g1 g2
    refine ⟨⟨hAw.trans' hAS (by simpa using hb3), (hAS.cell (p := ⟨b0, 0, none⟩) (lt_of_cell (a := ⟨b0, 0, none⟩) c1) (by simpa using hb03)).trans c1, g1⟩, (hF'.keep hA1' (fun hm => hfar.1 (List.mem_singleton.1 hm))).keep hAS (by simp; omega), ?_⟩
    exact g2.over (B := w.heap.size) hah hBS))
  refine (step_ok (P := fun w1 => (Apart [E.mb] w w1 /\ w1.cell? ⟨b0, 0, none⟩ = some (ptr fb) /\ F + bkL ((T p).length - 1) = f + bkL (T p).length + n) /\ FnAt w1 b3 (ry.id : Nat) 1) (K := upd K ry.id 0) (D := overD D (T p) p j i ry.id ⟨t, r.id⟩) (f := F) (u := 0) (lim := lim) ent_rename1 hF' hfar ok' hpl.far hpl.live (by show 1 <= E.most /\ E.most <= 200; rw [hpl.most]; omega) hlim (kR.mono ?_)).mono ?_
  · rintro e w1 ⟨rfl, hN1, hA1, hF1, hS1⟩
    exact ⟨rfl, ⟨hA1, hN1⟩, hF1, hS1⟩
  · rintro e w2 ⟨rfl, w1, ⟨⟨hA1, d0, hFf⟩, hN1⟩, hF2, hS2, hA2⟩
    have hA2' : Apart [E.d, E.g, E.mb] w1 w2 := hA2
    have hlow : ∀ k ∈ [E.d, E.g, E.mb], k < w.heap.size := fun k hk => by
      unfold TE.Ahead at hah
      simp only [List.mem_cons, List.not_mem_nil, or_false] at hk
      omega
    have hturn : E.Turns fb w w2 := turns_of (Below.refl _ _) hA1 hA2'
    refine ⟨rfl, ?_, ((ry.id : Nat) : Int), 1, hi64, hN1.keep hA2' (fun hm => by have := hlow _ hm; omega), ⟨hF2.c0, hF2.c1, hF2.c2, hF2.c3, hF2.c4, hF2.c5, hF2.c6, hF2.c7, hF2.f7⟩, ?_, ⟨F, hFf, ⟨⟨hF2.c0, hF2.c1, hF2.c2, hF2.c3, hF2.c4, hF2.c5, hF2.c6, hF2.c7, hF2.f7⟩, hS2.rest, hpl.at _ _ _ _ _, hfar, h.tree.over p1 p2 hk m htok hu⟩⟩, hturn⟩
    · exact (hA2'.cell (p := ⟨b0, 0, none⟩) (lt_of_cell (a := ⟨b0, 0, none⟩) d0) (fun hm => by have := hlow _ hm; simp only at this; omega)).trans d0
    · exact ⟨(hno.turns hturn).no, hno.ne⟩
end
end Go.Proofs.YtpofmiecjkghgaaGreatDoor
