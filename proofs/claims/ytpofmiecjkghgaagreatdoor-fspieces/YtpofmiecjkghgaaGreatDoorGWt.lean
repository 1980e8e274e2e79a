/- A move onto what may not be replaced. -/
import Derived.Test.YtpofmiecjkghgaaGreatDoorGWs
import Derived.Deep.RegionHeld
namespace Go.Proofs.YtpofmiecjkghgaaGreatDoor
open Go.RowKit Go.Extern.Stop Go.Stop Go.Extern Go.Maps Go.Sort Go.Shelf
set_option maxRecDepth 1000000
structure MvC (nb b8 b9 b11 : Nat) (RY KY RI KX : Int) (va : Option Addr) (LL vc : Nat) (s : ByteArray) (db : Nat) (va8 : Option Addr) (vc8 : Nat) (t : ByteArray) (db2 : Nat) (w : World) : Prop where
  g : FnAt w nb RY KY
  x : FnAt w b9 RI KX
  s : SpAt w b8 (.slice va LL vc) s (ptr db)
  t : SpAt w b11 (.slice va8 LL vc8) t (ptr db2)
theorem MvC.keep {nb b8 b9 b11 : Nat} {RY KY RI KX : Int} {va : Option Addr} {LL vc : Nat} {s : ByteArray} {db : Nat} {va8 : Option Addr} {vc8 : Nat} {t : ByteArray} {db2 : Nat} {w w' : World} {bs : List Nat} (h : MvC nb b8 b9 b11 RY KY RI KX va LL vc s db va8 vc8 t db2 w) (ha : Apart bs w w') (h1 : nb ∉ bs) (h2 : b8 ∉ bs) (h3 : b9 ∉ bs) (h4 : b11 ∉ bs) : MvC nb b8 b9 b11 RY KY RI KX va LL vc s db va8 vc8 t db2 w' := ⟨h.g.keep ha h1, h.x.keep ha h3, h.s.keep ha h2, h.t.keep ha h4⟩
section
variable {fb rs hb : Nat} {E : TE} {w w' : World} {K : Nat -> Nat} {D : Nat -> List Int} {T : Nat -> List Rec} {f u lim : Nat}
structure ClashT (K : Nat -> Nat) (T : Nat -> List Rec) (tn : Nat) (a b : List UInt8) (l : List (List UInt8)) (s t : List UInt8) (p i0 j : Nat) (r ry : Rec) (kx ky : Nat) (lv : List (List Nat)) : Prop where
  la : a.length <= 2000
  lb : b.length <= 2000
  pa : splitB a = some (l ++ [s])
  pb : splitB b = some (l ++ [t])
  ne : a ≠ b
  out : withinB b a = false
  dir : dirT K T l = .ok p
  at_ : (T p)[i0]? = some r
  name : r.s = s
  aty : (T p)[j]? = some ry
  namey : ry.s = t
  file : K r.id = kx
  filey : K ry.id = ky
  lvok : LvOk K T tn r.id lv
  fit : l.length + 1 + lv.length <= 7
set_option maxHeartbeats 8000000 in
theorem move_clash (hF : FsAt fb E rs hb w) (h : S8 E K D f u lim w) (ok : E.Ok) (ht : TreeOk E.tn K D T) (htn : 1 <= E.tn) {a b s t : List UInt8} {l : List (List UInt8)} {p i0 j kx ky : Nat} {r ry : Rec} {lv : List (List Nat)} (m : ClashT K T E.tn a b l s t p i0 j r ry kx ky lv) {z : Int}
    (kRep : ∀ (wx : World) (db db2 : Nat) (va va2 : Option Addr) (vn vc vn2 vc2 : Nat), Calls Tryz.prog 137 #[ptr fb, fnV (r.id : Nat) (kx : Nat), fnV (ry.id : Nat) (ky : Nat), spV (.slice va vn vc) (mkB s) (ptr db), spV (.slice va2 vn2 vc2) (mkB t) (ptr db2)] wx fun e w' => e = .returned (num z) /\ Below wx.heap.size wx w') :
    Calls Tryz.prog 75 #[ptr fb, .string (mkB a), .string (mkB b)] w fun e w' => e = .returned (.tuple #[fnV (ry.id : Nat) (ky : Nat), num z]) /\ Below w.heap.size w w' := by
  have hmp := may_all (split_may m.pb)
  have hl6 : l.length <= 6 := by have := hmp.1; rw [List.length_append] at this; omega
  have hdin : 1 <= p /\ p <= E.tn /\ K p = 2 := by
    have hd := m.dir
    unfold dirT at hd
    cases hw : walkT K T 1 l with
    | error z => rw [hw] at hd; cases hd
    | ok q =>
      rw [hw] at hd
      have h' : (if K q = 2 then Except.ok q else Except.error (14 : Int)) = Except.ok p := hd
      by_cases hk : K q = 2
      · rw [if_pos hk] at h'
        obtain rfl := Except.ok.inj h'
        have := walkT_in ht l 1 q (Nat.le_refl _) htn (by rw [ht.root]; decide) hw
        exact ⟨this.1, this.2.1, hk⟩
      · rw [if_neg hk] at h'; cases h'
  obtain ⟨p1, p2, hkp⟩ := hdin
  obtain ⟨hD, hG⟩ := ht.recs p p1 p2 hkp
  have hrm := List.mem_of_getElem? m.at_
  obtain ⟨hrt, hrk⟩ := ht.used p p1 p2 hkp r hrm
  have hym := List.mem_of_getElem? m.aty
  obtain ⟨hyt, hyk'⟩ := ht.used p p1 p2 hkp ry hym
  have htn200 : E.tn <= 200 := by have := ok.tn; omega
  have hr1 : 1 <= r.id := (hG.each r hrm).lo
  obtain ⟨w1, hw1, hB1, hN1⟩ : ∃ w1, w.alloc (Obj.cells #[.int .i64 0, .int .i64 0] 105) = w1 /\ Below w.heap.size w w1 /\ FnAt w1 w.heap.size 0 0 := ⟨_, rfl, (Below.refl _ _).alloc (Nat.le_refl _) _, fn_new _ _ _⟩
  have kSp := hidden (fun (wx : World) (hx : Below w.heap.size w wx) => And.intro (fspot_calls (hF.below hx) (h.more hx) ok ht htn m.la m.pa) (fspot_calls (hF.below hx) (h.more hx) ok ht htn m.lb m.pb))
  have kC := hidden (fun (wx : World) (hx : Below w.heap.size w wx) (db : Nat) (hd : DirAt E db p wx) => And.intro (child_at (hF.below hx) (h.more hx) ok p1 p2 hkp hD hG hd m.at_ hrt hrk) (child_at (hF.below hx) (h.more hx) ok p1 p2 hkp hD hG hd m.aty hyt hyk'))
  rw [m.name, m.namey, m.filey] at kC
  have kW := hidden (fun (wx : World) => within_calls b a wx m.lb m.la)
  rw [m.out] at kW
  have hKx := m.file
  have kFi := hidden (fun (wx : World) (hx : Below w.heap.size w wx) => fits_ok (hF.below hx) (h.more hx) ok ht hr1 hrt m.lvok m.lb m.pb (by rw [List.length_append]; have := m.fit; simp; omega))
  have kE := hidden kRep
  rw [hKx] at kFi kC
  have hdir := hidden m.dir
  have hne : ((mkB a).toList == (mkB b).toList) = false := by rw [mk_beq]; exact decide_eq_false m.ne
  have hBN := hidden (And.intro hB1 hN1)
  have hmbl : E.mb < w.heap.size := h.lts.2.2.2.2.1
  clear hF h ok ht hG hD hB1 hN1 m hmp hrm hrk hym hyt hyk' kRep hKx
  generalize hKXe : ((kx : Nat) : Int) = KX at *
  generalize hKYe : ((ky : Nat) : Int) = KY at *
  go_enter Tryz.func75, Tryz.ntmps75
  go_wp2_with fail
  refine ((kSp.out w1 hBN.out.1).1).mono ?_
  rintro ev w2 ⟨(⟨q, v2, db, hq, rfl, hT2, hD2, hdb, -, -, -⟩ | ⟨z, bk, nm, hq, -⟩), hB2⟩
  rotate_left
  · rw [hdir.out] at hq; cases hq
  obtain rfl : q = p := by rw [hdir.out] at hq; exact (Except.ok.inj hq).symm
  have hT2h := hidden hT2
  obtain ⟨va, vc, rfl, -⟩ := hT2
  obtain ⟨w3, hw3, hB3, hS3⟩ : ∃ w3, w2.alloc (.cells #[.slice va l.length vc, .string (mkB s), ptr db] 166) = w3 /\ Below w2.heap.size w2 w3 /\ SpAt w3 w2.heap.size (.slice va l.length vc) (mkB s) (ptr db) := ⟨_, rfl, (Below.refl _ _).alloc (Nat.le_refl _) _, sp_new _ _ _ _⟩
  have hb2 : Below w.heap.size w w2 := hBN.out.1.trans (hB2.mono hBN.out.1.size)
  have o8 : w.heap.size < w2.heap.size := by have := hBN.out.2.lt; have := hB2.size; omega
  have od : w.heap.size < db := by have := hBN.out.2.lt; omega
  have hb3 : Below w.heap.size w w3 := hb2.trans (hB3.mono hb2.size)
  have s1 := hS3.c1
  have s2 := hS3.c2
  have l3 := hS3.lt
  have kC3 := hidden (kC.out w3 hb3 db (hD2.below hB3)).1
  have hN3 := hidden ((hBN.out.2.below hB2).below hB3)
  have hK3 := hidden (And.intro (hT2h.out.below hB3) (And.intro (hD2.below hB3) hS3))
  replace hb3 := hidden hb3
  replace hw3 := hidden hw3
  clear hT2h hD2 hS3 hB2 hB3 hb2 hBN hq
  generalize hLL : l.length = LL at *
  generalize hf8 : w2.heap.size = b8 at *
  go_upto_region 2 with fail
  rw [hw3.out]
  clear hw3
  go_wp2_with fail
  refine (kC3.out).mono ?_
  rintro ev w4 ⟨rfl, hB4⟩
  obtain ⟨w5, hw5, hB5, hN5⟩ : ∃ w5, w4.alloc (.cells #[.int .i64 (r.id : Nat), .int .i64 KX] 105) = w5 /\ Below w4.heap.size w4 w5 /\ FnAt w5 w4.heap.size (r.id : Nat) KX := ⟨_, rfl, (Below.refl _ _).alloc (Nat.le_refl _) _, fn_new _ _ _⟩
  have o9 : w.heap.size < w4.heap.size := by have := hN3.out.lt; have := hB4.size; omega
  have hb35 : Below w3.heap.size w3 w5 := hB4.trans (hB5.mono hB4.size)
  have hb5 : Below w.heap.size w w5 := hb3.out.trans (hb35.mono hb3.out.size)
  have x0 := hN5.c0
  have x1 := hN5.c1
  have l5 := hN5.lt
  have hK5 := hidden (And.intro (hK3.out.1.below hb35) (And.intro (hK3.out.2.1.below hb35) (And.intro (hK3.out.2.2.below hb35) (And.intro hN5 (hN3.out.below hb35)))))
  replace hb5 := hidden hb5
  replace hw5 := hidden hw5
  clear hB4 hB5 hN5 hb35 kC3 hK3 hN3 hb3 s1 s2 l3
  generalize hRI : ((r.id : Nat) : Int) = RI at *
  generalize hRY : ((ry.id : Nat) : Int) = RY at *
  generalize hf9 : w4.heap.size = b9 at *
  go_upto_region 5 with fail
  rw [hw5.out]
  clear hw5
  go_wp2_with fail
  refine (kW.out _).mono ?_
  rintro ev w6 ⟨rfl, hB6⟩
  have hK6 := hK5.out.2.2.2.1.below hB6
  have y0 := hK6.c0
  have y1 := hK6.c1
  have l6 := hK6.lt
  have hb6 : Below w.heap.size w w6 := hb5.out.trans (hB6.mono hb5.out.size)
  have kF6 := hidden (kFi.out w6 hb6)
  replace hb6 := hidden hb6
  replace hB6 := hidden hB6
  clear hK6 kW x0 x1 l5
  go_wp2_with fail
  refine (kF6.out).mono ?_
  rintro ev w7 ⟨rfl, hB7⟩
  have hb7 : Below w.heap.size w w7 := hb6.out.trans (hB7.mono hb6.out.size)
  have kS7 := hidden (kSp.out w7 hb7).2
  have hb57 := hidden (hB6.out.trans (hB7.mono hB6.out.size))
  replace hb7 := hidden hb7
  clear hB7 kF6 kFi kSp y0 y1 l6 hb6 hB6
  go_wp2_with fail
  refine (kS7.out).mono ?_
  rintro ev w8 ⟨(⟨q2, v8, db2, hq2, rfl, hT8, hD8, hdb8, -, -, -⟩ | ⟨z, bk, nm, hq2, -⟩), hB8⟩
  rotate_left
  · rw [hdir.out] at hq2; cases hq2
  obtain rfl : q2 = q := by rw [hdir.out] at hq2; exact (Except.ok.inj hq2).symm
  have hT8h := hidden hT8
  obtain ⟨va8, vc8, rfl, -⟩ := hT8
  rw [hLL] at hT8h ⊢
  obtain ⟨w9, hw9, hB9, hS9⟩ : ∃ w9, w8.alloc (.cells #[.slice va8 LL vc8, .string (mkB t), ptr db2] 166) = w9 /\ Below w8.heap.size w8 w9 /\ SpAt w9 w8.heap.size (.slice va8 LL vc8) (mkB t) (ptr db2) := ⟨_, rfl, (Below.refl _ _).alloc (Nat.le_refl _) _, sp_new _ _ _ _⟩
  have o11 : w.heap.size < w8.heap.size := by have := hK5.out.2.2.2.2.lt; have := hb57.out.size; have := hB8.size; omega
  have od2 : w.heap.size < db2 := by have := hK5.out.2.2.2.2.lt; have := hb57.out.size; omega
  have hb79 : Below w7.heap.size w7 w9 := hB8.trans (hB9.mono hB8.size)
  have hb59 : Below w5.heap.size w5 w9 := hb57.out.trans (hb79.mono hb57.out.size)
  have hb9 : Below w.heap.size w w9 := hb7.out.trans (hb79.mono hb7.out.size)
  have s1 := hS9.c1
  have s2 := hS9.c2
  have l9 := hS9.lt
  have kC9 := hidden (kC.out w9 hb9 db2 (hD8.below hB9)).2
  have hK9 := hidden (And.intro (hK5.out.1.below hb59) (And.intro (hK5.out.2.1.below hb59) (And.intro (hK5.out.2.2.1.below hb59) (And.intro (hK5.out.2.2.2.1.below hb59) (And.intro (hK5.out.2.2.2.2.below hb59) (And.intro (hT8h.out.below hB9) (And.intro hS9 (hD8.below hB9))))))))
  replace hb9 := hidden hb9
  replace hw9 := hidden hw9
  clear hT8h hD8 hS9 hB8 hB9 hb79 hb59 hb57 hK5 hb5 hb7 kS7 hq2 kC hdb8
  generalize hf11 : w8.heap.size = b11 at *
  go_upto_region 15 with fail
  rw [hw9.out]
  clear hw9
  go_wp2_with fail
  refine (kC9.out).mono ?_
  rintro ev wA ⟨rfl, hBA⟩
  obtain ⟨kT1, kD1, kS1, kX1, kN1, kT2, kS2, kD2⟩ := hK9.out
  have hNA := kN1.below hBA
  have r0 := hNA.c0
  have r1 := hNA.c1
  have g0 := hNA.f0
  have g1 := hNA.f1
  have lA := hNA.lt
  have hbA : Below w.heap.size w wA := hb9.out.trans (hBA.mono hb9.out.size)
  obtain ⟨wG, hwG, hAG, hNG⟩ : ∃ wG, (wA.setCell ⟨w.heap.size, 0, none⟩ (.int .i64 RY)).setCell ⟨w.heap.size, 1, none⟩ (.int .i64 KY) = wG /\ Apart [w.heap.size] wA wG /\ FnAt wG w.heap.size RY KY := ⟨_, rfl, fn_apart _ _ _ _, fn_stored hNA⟩
  have hbG : Below w.heap.size w wG := hbA.trans (hAG.below (by simp) hbA.size)
  have q8 : b8 ∉ [w.heap.size] := by simp; omega
  have q9 : b9 ∉ [w.heap.size] := by simp; omega
  have q11 : b11 ∉ [w.heap.size] := by simp; omega
  have hM := hidden (show MvC w.heap.size b8 b9 b11 RY KY RI KX va LL vc (mkB s) db va8 vc8 (mkB t) db2 wG from ⟨hNG, (kX1.below hBA).keep hAG q9, (kS1.below hBA).keep hAG q8, (kS2.below hBA).keep hAG q11⟩)
  have kEA := hidden (kE.out wG.drew db db2 va va8 LL vc LL vc8)
  have kIs := hidden (is_nil 11 wG)
  replace hbG := hidden (hbG.trans ((below_drew1 wG).mono hbG.size))
  replace hwG := hidden hwG
  clear kT1 kD1 kS1 kX1 kN1 kT2 kS2 kD2 hNA hBA kC9 kE hK9 hb9 s1 s2 l9 hAG hNG hbA q8 q9 q11
  go_upto_region 18 with fail
  rw [hwG.out]
  clear hwG r0 r1 g0 g1 lA
  go_wp2_with fail
  refine (kIs.out).mono ?_
  rintro ev wB ⟨rfl, hwB⟩
  subst wB
  clear kIs
  go_upto_region 22 with fail
  have hS0 := hidden (hM.out.keep (Apart.of_below (bs := []) (below_drew1 wG)) (by simp) (by simp) (by simp) (by simp))
  refine wp_region_held_drew (S := MvC w.heap.size b8 b9 b11 RY KY RI KX va LL vc (mkB s) db va8 vc8 (mkB t) db2) (by kernel_rfl) hS0.out ?_
  intro _
  generalize wG.drew = wd at *
  refine wpAnyH_take (i := 0) (v := ?_) rfl (by kernel_rfl) (by kernel_rfl) (by kernel_rfl) (fun _ _ _ h => h) (Or.inl ⟨by rfl, ?_⟩) hS0.out ?_
  rotate_left
  · intro w hw; have hh := (hw).g; have c0 := hh.c0; have c1 := hh.c1; have lc := hh.lt; clear hh; clear hw; go_simp; try (with_reducible rfl)
  refine wpAnyH_take (i := 1) (v := ?_) rfl (by kernel_rfl) (by kernel_rfl) (by kernel_rfl) (fun _ _ _ h => h) (Or.inl ⟨by rfl, ?_⟩) hS0.out ?_
  rotate_left
  · intro w hw; clear hw; go_simp; try (with_reducible rfl)
  refine wpAnyH_take (i := 2) (v := ?_) rfl (by kernel_rfl) (by kernel_rfl) (by kernel_rfl) (fun _ _ _ h => h) (Or.inl ⟨by rfl, ?_⟩) hS0.out ?_
  rotate_left
  · intro w hw; have hh := (hw).x; have c0 := hh.c0; have c1 := hh.c1; have lc := hh.lt; clear hh; clear hw; go_simp; try (with_reducible rfl)
  refine wpAnyH_take (i := 3) (v := ?_) rfl (by kernel_rfl) (by kernel_rfl) (by kernel_rfl) (fun _ _ _ h => h) (Or.inl ⟨by rfl, ?_⟩) hS0.out ?_
  rotate_left
  · intro w hw; have hh := (hw).g; have c0 := hh.c0; have c1 := hh.c1; have lc := hh.lt; clear hh; clear hw; go_simp; try (with_reducible rfl)
  refine wpAnyH_take (i := 4) (v := ?_) rfl (by kernel_rfl) (by kernel_rfl) (by kernel_rfl) (fun _ _ _ h => h) (Or.inl ⟨by rfl, ?_⟩) hS0.out ?_
  rotate_left
  · intro w hw; have hh := (hw).s; have c0 := hh.c0; have c1 := hh.c1; have c2 := hh.c2; have lc := hh.lt; clear hh; clear hw; go_simp; try (with_reducible rfl)
  refine wpAnyH_ready (rs := [5]) (by kernel_rfl) (by simp) ?_
  refine AllReadyH.cons rfl (fun K hK => ?_) AllReadyH.nil
  have hh := (hS0.out).t; have c0 := hh.c0; have c1 := hh.c1; have c2 := hh.c2; have lc := hh.lt; clear hh
  go_simp
  refine hK.out _ _ hS0.out (fun _ => ?_)
  clear hK K
  refine wpAnyH_ready (rs := [6]) (by kernel_rfl) (by simp) ?_
  refine AllReadyH.cons rfl (fun K hK => ?_) AllReadyH.nil
  go_simp
  go_wp2_with (go_at_call 137; refine (kEA.out).mono ?_; rintro ev w6 ⟨rfl, hB6⟩)
  refine hK.out _ _ (MvC.keep hS0.out (Apart.of_below (bs := []) hB6) (by simp) (by simp) (by simp) (by simp)) (fun hSn1 => ?_)
  have hE := hidden (hbG.out.trans (hB6.mono hbG.out.size))
  clear hB6 kEA
  clear hK K
  refine wpAnyH_ready (rs := [7]) (by kernel_rfl) (by simp) ?_
  refine AllReadyH.cons rfl (fun K hK => ?_) AllReadyH.nil
  have hh := (hSn1).g; have r0 := hh.c0; have r1 := hh.c1; have g0 := hh.f0; have g1 := hh.f1; have lg := hh.lt; have e0 := setCell_self r0; have e1 := setCell_self r1; clear hh
  go_simp
  refine hK.out _ _ (hSn1) (fun hSn2 => ?_)
  clear r0 r1 g0 g1 lg e0 e1
  clear hK K
  refine wpAnyH_ready (rs := [8]) (by kernel_rfl) (by simp) ?_
  refine AllReadyH.cons rfl (fun K hK => ?_) AllReadyH.nil
  go_simp
  refine hK.out _ _ hSn2 (fun _ => ?_)
  clear hK K
  refine wpAnyH_done (by kernel_rfl) ?_ _
  go_wp2
  (try simp only [Exit.inBlock, Exit.then])
  exact bodyPost_ret (ret_fnode rfl rfl (hSn2).g) rfl ⟨by first | rfl | (rw [hRY]; rfl), hE.out⟩
set_option maxHeartbeats 1000000 in
theorem replace_dirx {kx ky : Int} {x y : Int} (hk : kx = 2) (va va2 : Option Addr) (vn vc vn2 vc2 db db2 : Nat) (s t : List UInt8) :
    Calls Tryz.prog 137 #[ptr fb, fnV x kx, fnV y ky, spV (.slice va vn vc) (mkB s) (ptr db), spV (.slice va2 vn2 vc2) (mkB t) (ptr db2)] w fun e w' => e = .returned (num 12) /\ Below w.heap.size w w' := by
  subst hk
  have hB := hidden (fun (o1 o2 o3 o4 : Obj) => show Below w.heap.size w ((((w.alloc o1).alloc o2).alloc o3).alloc o4) from ((((Below.refl _ _).alloc (Nat.le_refl _) o1).alloc (by simp) o2).alloc (by simp; omega) o3).alloc (by simp; omega) o4)
  go_enter Tryz.func137, Tryz.ntmps137
  go_wp2
  go_ret
  exact ⟨rfl, hB.out _ _ _ _⟩
set_option maxHeartbeats 1000000 in
theorem replace_diry {kx ky : Int} {x y : Int} (hk : kx = 1) (hy : ky = 2) (va va2 : Option Addr) (vn vc vn2 vc2 db db2 : Nat) (s t : List UInt8) :
    Calls Tryz.prog 137 #[ptr fb, fnV x kx, fnV y ky, spV (.slice va vn vc) (mkB s) (ptr db), spV (.slice va2 vn2 vc2) (mkB t) (ptr db2)] w fun e w' => e = .returned (num 13) /\ Below w.heap.size w w' := by
  subst hk hy
  have hB := hidden (fun (o1 o2 o3 o4 : Obj) => show Below w.heap.size w ((((w.alloc o1).alloc o2).alloc o3).alloc o4) from ((((Below.refl _ _).alloc (Nat.le_refl _) o1).alloc (by simp) o2).alloc (by simp; omega) o3).alloc (by simp; omega) o4)
  go_enter Tryz.func137, Tryz.ntmps137
  go_wp2
  go_ret
  exact ⟨rfl, hB.out _ _ _ _⟩
end
set_option maxRecDepth 100000
section
variable {fb rs hb : Nat} {E : TE} {w w' : World} {K : Nat -> Nat} {D : Nat -> List Int} {T : Nat -> List Rec} {f u lim : Nat}
set_option maxHeartbeats 1000000 in
theorem rename1_err {b0 b1 b2 b3 : Nat} {a b : List UInt8} {x k m : Int} {Q : World -> Prop} (hB : RBox b0 b1 b2 b3 fb a b 0 0 w)
    (kM : Calls Tryz.prog 75 #[ptr fb, .string (mkB a), .string (mkB b)] w fun e w1 => e = .returned (.tuple #[fnV x k, num m]) /\ FnAt w1 b3 0 0 /\ Q ((w1.setCell ⟨b3, 0, none⟩ (.int .i64 x)).setCell ⟨b3, 1, none⟩ (.int .i64 k))) :
    Calls Tryz.prog 74 #[ptr b0, ptr b1, ptr b2, ptr b3] w fun e w' => e = .returned (num m) /\ Q w' := by
  have c0 := hB.c0
  have c1 := hB.c1
  have c2 := hB.c2
  have l0 := lt_of_cell (a := ⟨b0, 0, none⟩) c0
  have l1 := lt_of_cell (a := ⟨b1, 0, none⟩) c1
  have l2 := lt_of_cell (a := ⟨b2, 0, none⟩) c2
  replace kM := hidden kM
  clear hB
  go_enter Tryz.func74, Tryz.ntmps74
  go_wp2_with fail
  refine (kM.out).mono ?_
  rintro ev w1 ⟨rfl, hN, hQ⟩
  have d0 := hN.c0
  have d1 := hN.c1
  have e0 := hN.f0
  have e1 := hN.f1
  have l3 := hN.lt
  replace hQ := hidden hQ
  clear hN kM
  go_wp2
  go_ret
  exact ⟨rfl, hQ.out⟩
set_option maxHeartbeats 2000000 in
theorem rename_fvia {a b : List UInt8} {la lb : List (List UInt8)} {m : Int} (hla : a.length <= 2000) (hlb : b.length <= 2000) (hpa : splitB a = some la) (hpb : splitB b = some lb) (na : la ≠ []) (nb : lb ≠ []) {Q : Value -> World -> Prop}
    (kS : ∀ (wx : World) (b0 b1 b2 b3 : Nat), Below w.heap.size w wx -> w.heap.size <= b3 -> RBox b0 b1 b2 b3 fb a b 0 0 wx -> Calls Tryz.prog 54 #[ptr fb, .func (.func 74) #[] #[ptr b0, ptr b1, ptr b2, ptr b3]] wx fun e w' => ∃ ll ev, e = .returned ev /\ Chain w' ll (num m) ev /\ Q ev w') :
    Calls Tryz.prog 38 #[ptr fb, .string (mkB a), .string (mkB b)] w fun e w' => ∃ ev, e = .returned ev /\ Q ev w' := by
  have hmf : ∀ (fn : Fn) (first cap : Array Value) (w : World), (Instr.makeFunc fn first cap).run Tryz.prog w = .ok (.func fn first cap) w := fun _ _ _ _ => rfl
  obtain ⟨w1, hw1, hB1, g0, g1, g2⟩ := boxesR w fb a b
  have l0 := lt_of_cell (a := ⟨w.heap.size, 0, none⟩) g0
  have l1 := lt_of_cell (a := ⟨w.heap.size + 1, 0, none⟩) g1
  have l2 := lt_of_cell (a := ⟨w.heap.size + 1 + 1, 0, none⟩) g2
  have kA := split_calls a w1 hla
  unfold ToldS at kA
  rw [hpa] at kA
  replace kA := hidden kA
  have kB := fun wx => split_calls b wx hlb
  unfold ToldS at kB
  rw [hpb] at kB
  replace kB := hidden kB
  have hna : ((la.length : Int) == 0) = false := by have := List.length_pos_iff.2 na; simp; omega
  have hnb : ((lb.length : Int) == 0) = false := by have := List.length_pos_iff.2 nb; simp; omega
  have hb1 := hidden hB1
  replace kS := hidden kS
  replace hw1 := hidden hw1
  clear hB1
  go_enter Tryz.func38, Tryz.ntmps38
  go_upto_region 1 with fail
  rw [hw1.out]
  clear hw1
  go_wp2_with fail
  refine (kA.out).mono ?_
  rintro ev w2 ⟨v2, rfl, hT2, hB2⟩
  have hT2' : TxtsAt w2 v2 la := hT2
  obtain ⟨a2, c2, rfl, -⟩ := hT2'
  have k0 := (hB2.cell (p := ⟨w.heap.size, 0, none⟩) l0).trans g0
  have k1 := (hB2.cell (p := ⟨w.heap.size + 1, 0, none⟩) l1).trans g1
  have k2 := (hB2.cell (p := ⟨w.heap.size + 1 + 1, 0, none⟩) l2).trans g2
  have m2 := lt_of_cell (a := ⟨w.heap.size + 1 + 1, 0, none⟩) k2
  have m0 := lt_of_cell (a := ⟨w.heap.size, 0, none⟩) k0
  have m1 := lt_of_cell (a := ⟨w.heap.size + 1, 0, none⟩) k1
  have hb2 := hidden (hb1.out.trans (hB2.mono hb1.out.size))
  clear hT2 hB2 kA g0 g1 g2 l0 l1 l2
  dsimp only [Option.isSome]
  go_wp2_with fail
  refine (kB.out _).mono ?_
  rintro ev w3 ⟨v3, rfl, hT3, hB3⟩
  have hT3' : TxtsAt w3 v3 lb := hT3
  obtain ⟨a3, c3, rfl, -⟩ := hT3'
  have hb3 : Below w.heap.size w w3 := hb2.out.trans (hB3.mono hb2.out.size)
  have n0 := (hB3.cell (p := ⟨w.heap.size, 0, none⟩) m0).trans k0
  have n1 := (hB3.cell (p := ⟨w.heap.size + 1, 0, none⟩) m1).trans k1
  have n2 := (hB3.cell (p := ⟨w.heap.size + 1 + 1, 0, none⟩) m2).trans k2
  obtain ⟨w4, hw4, hB4, hN4⟩ : ∃ w4, w3.alloc (Obj.cells #[.int .i64 0, .int .i64 0] 105) = w4 /\ Below w3.heap.size w3 w4 /\ FnAt w4 w3.heap.size 0 0 := ⟨_, rfl, (Below.refl _ _).alloc (Nat.le_refl _) _, fn_new _ _ _⟩
  have o0 := (hB4.cell (p := ⟨w.heap.size, 0, none⟩) (lt_of_cell (a := ⟨w.heap.size, 0, none⟩) n0)).trans n0
  have o1 := (hB4.cell (p := ⟨w.heap.size + 1, 0, none⟩) (lt_of_cell (a := ⟨w.heap.size + 1, 0, none⟩) n1)).trans n1
  have o2 := (hB4.cell (p := ⟨w.heap.size + 1 + 1, 0, none⟩) (lt_of_cell (a := ⟨w.heap.size + 1 + 1, 0, none⟩) n2)).trans n2
  have hl0 := lt_of_cell (a := ⟨w.heap.size, 0, none⟩) o0
  have kS4 := hidden (kS.out w4 w.heap.size (w.heap.size + 1) (w.heap.size + 1 + 1) w3.heap.size (hb3.trans (hB4.mono hb3.size)) hb3.size ⟨o0, o1, o2, hN4⟩)
  clear hT3 hB3 hb3 hB4 hN4 kB kS k0 k1 k2 n0 n1 n2 o1 o2 m0 m1 m2 hb1 hb2
  dsimp only [Option.isSome]
  generalize la.length = LA at *
  generalize lb.length = LB at *
  generalize hf3 : w3.heap.size = b3 at *
  replace hw4 := hidden hw4
  go_upto_region 8 with fail
  rw [hw4.out]
  clear hw4
  go_wp2_with fail
  refine (kS4.out).mono ?_
  rintro ev w5 ⟨ll, er, rfl, hc, hQ⟩
  obtain ⟨ut, uv, rfl⟩ := Chain.held hc (Or.inr ⟨_, _, rfl⟩)
  replace hQ := hidden hQ
  clear hc kS4
  go_wp2
  go_ret
  exact ⟨_, rfl, hQ.out⟩
set_option maxHeartbeats 2000000 in
theorem rename_clash (h : Fsz fb rs hb E K D T f lim w) {a b s t : List UInt8} {l : List (List UInt8)} {p i0 j kx ky : Nat} {r ry : Rec} {lv : List (List Nat)} (m : ClashT K T E.tn a b l s t p i0 j r ry kx ky lv) {z : Int} (hz : (z == 50) = false)
    (kRep : ∀ (wx : World) (db db2 : Nat) (va va2 : Option Addr) (vn vc vn2 vc2 : Nat), Calls Tryz.prog 137 #[ptr fb, fnV (r.id : Nat) (kx : Nat), fnV (ry.id : Nat) (ky : Nat), spV (.slice va vn vc) (mkB s) (ptr db), spV (.slice va2 vn2 vc2) (mkB t) (ptr db2)] wx fun e w' => e = .returned (num z) /\ Below wx.heap.size wx w') :
    Calls Tryz.prog 38 #[ptr fb, .string (mkB a), .string (mkB b)] w fun e w' => ∃ ev, e = .returned ev /\ Refused fb rs hb E K D T f lim z w ev w' := by
  have hah := h.s.to.lts
  have hfbl := h.at_.lt
  refine rename_fvia (m := z) (Q := fun ev w' => Refused fb rs hb E K D T f lim z w ev w') m.la m.lb m.pa m.pb (by simp) (by simp) (fun wx b0 b1 b2 b3 hx hb3 hbx => ?_)
  have hr := h.rest.below hx
  have kM := move_clash hr.at_ hr.s.to h.pl.rest_ok hr.tree h.pl.tn1 m kRep
  have kR := rename1_err (x := ((ry.id : Nat) : Int)) (k := ((ky : Nat) : Int)) (m := z) (Q := fun w1 => Below w.heap.size w w1) hbx (kM.mono (by
    rintro e w1 ⟨rfl, hB1⟩
    have hbw : Below w.heap.size w w1 := hx.trans (hB1.mono hx.size)
    exact ⟨rfl, hbx.n.below hB1, (hbw.setCell (p := ⟨b3, 0, none⟩) hb3 _).setCell (p := ⟨b3, 1, none⟩) hb3 _⟩))
  refine (step_err (E := E.rest) (K := K) (D := D) (f := f) (u := 0) (lim := lim) (P := fun w1 _ => Below w.heap.size w w1) hz ent_rename1 hr.at_ hr.far h.pl.rest_ok (kR.mono ?_)).mono ?_
  · rintro e w1 ⟨rfl, hB⟩
    have hz1 := h.rest.below hB
    exact ⟨[], _, rfl, rfl, hB, hz1.at_, hz1.s⟩
  · rintro e w2 ⟨ll, ev, w1, rfl, hc, hB, hF2, hS2, hA⟩
    exact ⟨ll, ev, rfl, hc, ⟨ll, hc⟩, ⟨hF2, hS2, h.pl.at _ _ _ _ _, h.far, h.tree⟩, turns_err hB (Below.refl _ _) hA⟩
end
set_option maxRecDepth 1000000
section
variable {fb rs hb : Nat} {E : TE} {w w' : World} {K : Nat -> Nat} {D : Nat -> List Int} {T : Nat -> List Rec} {f u lim : Nat}
structure LoopT (K : Nat -> Nat) (T : Nat -> List Rec) (tn : Nat) (a b : List UInt8) (l l2 : List (List UInt8)) (s t : List UInt8) (p i : Nat) (r : Rec) (lv : List (List Nat)) : Prop where
  la : a.length <= 2000
  lb : b.length <= 2000
  pa : splitB a = some (l ++ [s])
  pb : splitB b = some (l2 ++ [t])
  ne : a ≠ b
  out : withinB b a = true
  dir : dirT K T l = .ok p
  at_ : (T p)[i]? = some r
  name : r.s = s
structure DeepT (K : Nat -> Nat) (T : Nat -> List Rec) (tn : Nat) (a b : List UInt8) (l l2 : List (List UInt8)) (s t : List UInt8) (p i : Nat) (r : Rec) (lv : List (List Nat)) : Prop where
  la : a.length <= 2000
  lb : b.length <= 2000
  pa : splitB a = some (l ++ [s])
  pb : splitB b = some (l2 ++ [t])
  ne : a ≠ b
  out : withinB b a = false
  dir : dirT K T l = .ok p
  at_ : (T p)[i]? = some r
  name : r.s = s
  lvok : LvOk K T tn r.id lv
  few : lv.length <= 200
  fit : 8 <= l2.length + 1 + lv.length
set_option maxHeartbeats 2000000 in
theorem fits_deep (hF : FsAt fb E rs hb w) (h : S8 E K D f u lim w) (ok : E.Ok) (ht : TreeOk E.tn K D T) {x : Nat} (x1 : 1 <= x) (x2 : x <= E.tn) {lv : List (List Nat)} (hlv : LvOk K T E.tn x lv) {path : List UInt8} {l : List (List UInt8)} (hlen : path.length <= 2000) (hp : splitB path = some l) (hfew : lv.length <= 200) (hfit : 8 <= l.length + lv.length) :
    Calls Tryz.prog 135 #[ptr fb, fnV (x : Nat) (K x : Nat), .string (mkB path)] w fun e w' => e = .returned (num 10) /\ Below w.heap.size w w' := by
  obtain ⟨w1, hw1, hB1, hN1⟩ : ∃ w1, w.alloc (.cells #[.int .i64 (x : Nat), .int .i64 (K x : Nat)] 105) = w1 /\ Below w.heap.size w w1 /\ FnAt w1 w.heap.size (x : Nat) (K x : Nat) := ⟨_, rfl, (Below.refl _ _).alloc (Nat.le_refl _) _, fn_new _ _ _⟩
  have kS := split_calls path w1 hlen
  unfold ToldS at kS
  rw [hp] at kS
  replace kS := hidden kS
  have kL := hidden (fun (wx : World) (hx : Below w.heap.size w wx) => levels_calls (hF.below hx) (h.more hx) ok ht x1 x2 hlv)
  have hBN := hidden (And.intro hB1 hN1)
  have hl6 : l.length <= 6 := (may_all (split_may hp)).1
  have hl1 : 1 <= lv.length := by
    have := hlv.first
    rcases Nat.lt_or_ge 0 lv.length with h | h
    · exact h
    · rw [List.getElem?_eq_none h] at this; cases this
  clear hF h ok ht hB1 hN1 hlv
  generalize hKX : ((K x : Nat) : Int) = KX at *
  replace hKX := hidden hKX
  go_enter Tryz.func135, Tryz.ntmps135
  go_wp2_with fail
  refine (kS.out).mono ?_
  rintro ev w2 ⟨v, rfl, hT, hB2⟩
  have hT' : TxtsAt w2 v l := hT
  obtain ⟨la, lc, rfl, -⟩ := hT'
  have hb2 : Below w.heap.size w w2 := hBN.out.1.trans (hB2.mono hBN.out.1.size)
  have hN2 := hBN.out.2.below hB2
  have n0 := hN2.c0
  have n1 := hN2.c1
  have hltn := hN2.lt
  have kL2 := hidden (kL.out w2 hb2)
  replace hb2 := hidden hb2
  clear hT hB2 kS hN2 kL
  dsimp only [Option.isSome]
  generalize hLL : l.length = LL at *
  go_wp2_with fail
  refine (kL2.out).mono ?_
  rintro ev w3 ⟨v3, rfl, hL3, hB3⟩
  obtain ⟨va, vc, rfl, -⟩ := hL3.form
  have hE := hidden (hb2.out.trans (hB3.mono hb2.out.size))
  clear hL3 hB3 kL2 hb2
  generalize hLV : lv.length = LV at *
  have hgt : (6 : Int) < (LL : Int) + (LV : Int) - 1 := by omega
  go_wp2
  go_ret
  exact ⟨rfl, hE.out⟩
set_option maxHeartbeats 4000000 in
theorem move_loop (hF : FsAt fb E rs hb w) (h : S8 E K D f u lim w) (ok : E.Ok) (ht : TreeOk E.tn K D T) (htn : 1 <= E.tn) {a b s t : List UInt8} {l l2 : List (List UInt8)} {p i : Nat} {r : Rec} {lv : List (List Nat)} (m : LoopT K T E.tn a b l l2 s t p i r lv) :
    Calls Tryz.prog 75 #[ptr fb, .string (mkB a), .string (mkB b)] w fun e w' => e = .returned (.tuple #[fnV 0 0, num 20]) /\ Below w.heap.size w w' := by
  have hmp := may_all (split_may m.pb)
  have hl6 : l.length <= 6 := by have := (may_all (split_may m.pa)).1; rw [List.length_append] at this; omega
  have hl26 : l2.length <= 6 := by have := hmp.1; rw [List.length_append] at this; omega
  have htok : okB t = true := hmp.2 t (by simp)
  have hsok : okB s = true := (may_all (split_may m.pa)).2 s (by simp)
  obtain ⟨p1, p2, hkp⟩ := dirT_in ht htn m.dir
  obtain ⟨hD, hG⟩ := ht.recs p p1 p2 hkp
  have hrm := List.mem_of_getElem? m.at_
  obtain ⟨hrt, hrk⟩ := ht.used p p1 p2 hkp r hrm
  have hr1 : 1 <= r.id := (hG.each r hrm).lo
  obtain ⟨w1, hw1, hB1, hN1⟩ : ∃ w1, w.alloc (Obj.cells #[.int .i64 0, .int .i64 0] 105) = w1 /\ Below w.heap.size w w1 /\ FnAt w1 w.heap.size 0 0 := ⟨_, rfl, (Below.refl _ _).alloc (Nat.le_refl _) _, fn_new _ _ _⟩
  have kSp := hidden (fun (wx : World) (hx : Below w.heap.size w wx) => fspot_calls (hF.below hx) (h.more hx) ok ht htn m.la m.pa)
  have kC := hidden (fun (wx : World) (hx : Below w.heap.size w wx) (db : Nat) (hd : DirAt E db p wx) => child_at (hF.below hx) (h.more hx) ok p1 p2 hkp hD hG hd m.at_ hrt hrk)
  rw [m.name] at kC
  have kW := hidden (fun (wx : World) => within_calls b a wx m.lb m.la)
  rw [m.out] at kW
  have hdir := hidden m.dir
  have hne : ((mkB a).toList == (mkB b).toList) = false := by rw [mk_beq]; exact decide_eq_false m.ne
  have hBN := hidden (And.intro hB1 hN1)
  have hmbl : E.mb < w.heap.size := h.lts.2.2.2.2.1
  clear hF h ok ht hG hD hB1 hN1 m hmp hrm hrk
  go_enter Tryz.func75, Tryz.ntmps75
  go_wp2_with fail
  refine (kSp.out w1 hBN.out.1).mono ?_
  rintro ev w2 ⟨(⟨pp, v2, db, hq, rfl, hT2, hD2, hdb, -, -, -⟩ | ⟨z, bk, nm, hq, -⟩), hB2⟩
  rotate_left
  · rw [hdir.out] at hq; cases hq
  obtain rfl : pp = p := by rw [hdir.out] at hq; exact (Except.ok.inj hq).symm
  have hT2h := hidden hT2
  obtain ⟨va, vc, rfl, -⟩ := hT2
  obtain ⟨w3, hw3, hB3, hS3⟩ : ∃ w3, w2.alloc (.cells #[.slice va l.length vc, .string (mkB s), ptr db] 166) = w3 /\ Below w2.heap.size w2 w3 /\ SpAt w3 w2.heap.size (.slice va l.length vc) (mkB s) (ptr db) := ⟨_, rfl, (Below.refl _ _).alloc (Nat.le_refl _) _, sp_new _ _ _ _⟩
  have hb2 : Below w.heap.size w w2 := hBN.out.1.trans (hB2.mono hBN.out.1.size)
  have hb3 : Below w.heap.size w w3 := hb2.trans (hB3.mono hb2.size)
  have s1 := hS3.c1
  have s2 := hS3.c2
  have l3 := hS3.lt
  have kC3 := hidden (kC.out w3 hb3 db (hD2.below hB3))
  have hN3 := hidden ((hBN.out.2.below hB2).below hB3)
  have hK3 := hidden (And.intro (hT2h.out.below hB3) (And.intro (hD2.below hB3) hS3))
  replace hb3 := hidden hb3
  replace hw3 := hidden hw3
  clear hT2h hD2 hS3 hB2 hB3 hb2 hBN hq
  generalize hLL : l.length = LL at *
  generalize hf8 : w2.heap.size = b8 at *
  go_upto_region 2 with fail
  rw [hw3.out]
  clear hw3
  go_wp2_with fail
  refine (kC3.out).mono ?_
  rintro ev w4 ⟨rfl, hB4⟩
  obtain ⟨w5, hw5, hB5, hN5⟩ : ∃ w5, w4.alloc (.cells #[.int .i64 (r.id : Nat), .int .i64 (K r.id : Nat)] 105) = w5 /\ Below w4.heap.size w4 w5 /\ FnAt w5 w4.heap.size (r.id : Nat) (K r.id : Nat) := ⟨_, rfl, (Below.refl _ _).alloc (Nat.le_refl _) _, fn_new _ _ _⟩
  have hb35 : Below w3.heap.size w3 w5 := hB4.trans (hB5.mono hB4.size)
  have hb5 : Below w.heap.size w w5 := hb3.out.trans (hb35.mono hb3.out.size)
  have x0 := hN5.c0
  have x1 := hN5.c1
  have l5 := hN5.lt
  have hK5 := hidden (And.intro (hK3.out.1.below hb35) (And.intro (hK3.out.2.1.below hb35) (And.intro (hK3.out.2.2.below hb35) (And.intro hN5 (hN3.out.below hb35)))))
  replace hb5 := hidden hb5
  replace hw5 := hidden hw5
  clear hB4 hB5 hN5 hb35 kC3 hK3 hN3 hb3 s1 s2 l3
  generalize hKR : ((K r.id : Nat) : Int) = KR at *
  generalize hRI : ((r.id : Nat) : Int) = RI at *
  generalize hf9 : w4.heap.size = b9 at *
  go_upto_region 5 with fail
  rw [hw5.out]
  clear hw5
  go_wp2_with fail
  refine (kW.out _).mono ?_
  rintro ev w6 ⟨rfl, hB6⟩
  have hNA := hK5.out.2.2.2.2.below hB6
  have r0 := hNA.c0
  have r1 := hNA.c1
  have g0 := hNA.f0
  have g1 := hNA.f1
  have lA := hNA.lt
  have e0 := setCell_self r0
  have e1 := setCell_self r1
  have hE := hidden (And.intro hNA (hb5.out.trans (hB6.mono hb5.out.size)))
  clear hNA hB6 kW x0 x1 l5
  go_wp2
  (try simp only [Exit.inBlock, Exit.then])
  exact bodyPost_ret (ret_fnode rfl rfl hE.out.1) rfl ⟨rfl, hE.out.2⟩
set_option maxHeartbeats 4000000 in
theorem move_deep (hF : FsAt fb E rs hb w) (h : S8 E K D f u lim w) (ok : E.Ok) (ht : TreeOk E.tn K D T) (htn : 1 <= E.tn) {a b s t : List UInt8} {l l2 : List (List UInt8)} {p i : Nat} {r : Rec} {lv : List (List Nat)} (m : DeepT K T E.tn a b l l2 s t p i r lv) :
    Calls Tryz.prog 75 #[ptr fb, .string (mkB a), .string (mkB b)] w fun e w' => e = .returned (.tuple #[fnV 0 0, num 10]) /\ Below w.heap.size w w' := by
  have hmp := may_all (split_may m.pb)
  have hl6 : l.length <= 6 := by have := (may_all (split_may m.pa)).1; rw [List.length_append] at this; omega
  have hl26 : l2.length <= 6 := by have := hmp.1; rw [List.length_append] at this; omega
  have htok : okB t = true := hmp.2 t (by simp)
  have hsok : okB s = true := (may_all (split_may m.pa)).2 s (by simp)
  obtain ⟨p1, p2, hkp⟩ := dirT_in ht htn m.dir
  obtain ⟨hD, hG⟩ := ht.recs p p1 p2 hkp
  have hrm := List.mem_of_getElem? m.at_
  obtain ⟨hrt, hrk⟩ := ht.used p p1 p2 hkp r hrm
  have hr1 : 1 <= r.id := (hG.each r hrm).lo
  obtain ⟨w1, hw1, hB1, hN1⟩ : ∃ w1, w.alloc (Obj.cells #[.int .i64 0, .int .i64 0] 105) = w1 /\ Below w.heap.size w w1 /\ FnAt w1 w.heap.size 0 0 := ⟨_, rfl, (Below.refl _ _).alloc (Nat.le_refl _) _, fn_new _ _ _⟩
  have kSp := hidden (fun (wx : World) (hx : Below w.heap.size w wx) => fspot_calls (hF.below hx) (h.more hx) ok ht htn m.la m.pa)
  have kC := hidden (fun (wx : World) (hx : Below w.heap.size w wx) (db : Nat) (hd : DirAt E db p wx) => child_at (hF.below hx) (h.more hx) ok p1 p2 hkp hD hG hd m.at_ hrt hrk)
  rw [m.name] at kC
  have kW := hidden (fun (wx : World) => within_calls b a wx m.lb m.la)
  rw [m.out] at kW
  have kFi := hidden (fun (wx : World) (hx : Below w.heap.size w wx) => fits_deep (hF.below hx) (h.more hx) ok ht hr1 hrt m.lvok m.lb m.pb m.few (by rw [List.length_append]; have := m.fit; simp; omega))
  have hdir := hidden m.dir
  have hne : ((mkB a).toList == (mkB b).toList) = false := by rw [mk_beq]; exact decide_eq_false m.ne
  have hBN := hidden (And.intro hB1 hN1)
  have hmbl : E.mb < w.heap.size := h.lts.2.2.2.2.1
  clear hF h ok ht hG hD hB1 hN1 m hmp hrm hrk
  go_enter Tryz.func75, Tryz.ntmps75
  go_wp2_with fail
  refine (kSp.out w1 hBN.out.1).mono ?_
  rintro ev w2 ⟨(⟨pp, v2, db, hq, rfl, hT2, hD2, hdb, -, -, -⟩ | ⟨z, bk, nm, hq, -⟩), hB2⟩
  rotate_left
  · rw [hdir.out] at hq; cases hq
  obtain rfl : pp = p := by rw [hdir.out] at hq; exact (Except.ok.inj hq).symm
  have hT2h := hidden hT2
  obtain ⟨va, vc, rfl, -⟩ := hT2
  obtain ⟨w3, hw3, hB3, hS3⟩ : ∃ w3, w2.alloc (.cells #[.slice va l.length vc, .string (mkB s), ptr db] 166) = w3 /\ Below w2.heap.size w2 w3 /\ SpAt w3 w2.heap.size (.slice va l.length vc) (mkB s) (ptr db) := ⟨_, rfl, (Below.refl _ _).alloc (Nat.le_refl _) _, sp_new _ _ _ _⟩
  have hb2 : Below w.heap.size w w2 := hBN.out.1.trans (hB2.mono hBN.out.1.size)
  have hb3 : Below w.heap.size w w3 := hb2.trans (hB3.mono hb2.size)
  have s1 := hS3.c1
  have s2 := hS3.c2
  have l3 := hS3.lt
  have kC3 := hidden (kC.out w3 hb3 db (hD2.below hB3))
  have hN3 := hidden ((hBN.out.2.below hB2).below hB3)
  have hK3 := hidden (And.intro (hT2h.out.below hB3) (And.intro (hD2.below hB3) hS3))
  replace hb3 := hidden hb3
  replace hw3 := hidden hw3
  clear hT2h hD2 hS3 hB2 hB3 hb2 hBN hq
  generalize hLL : l.length = LL at *
  generalize hf8 : w2.heap.size = b8 at *
  go_upto_region 2 with fail
  rw [hw3.out]
  clear hw3
  go_wp2_with fail
  refine (kC3.out).mono ?_
  rintro ev w4 ⟨rfl, hB4⟩
  obtain ⟨w5, hw5, hB5, hN5⟩ : ∃ w5, w4.alloc (.cells #[.int .i64 (r.id : Nat), .int .i64 (K r.id : Nat)] 105) = w5 /\ Below w4.heap.size w4 w5 /\ FnAt w5 w4.heap.size (r.id : Nat) (K r.id : Nat) := ⟨_, rfl, (Below.refl _ _).alloc (Nat.le_refl _) _, fn_new _ _ _⟩
  have hb35 : Below w3.heap.size w3 w5 := hB4.trans (hB5.mono hB4.size)
  have hb5 : Below w.heap.size w w5 := hb3.out.trans (hb35.mono hb3.out.size)
  have x0 := hN5.c0
  have x1 := hN5.c1
  have l5 := hN5.lt
  have hK5 := hidden (And.intro (hK3.out.1.below hb35) (And.intro (hK3.out.2.1.below hb35) (And.intro (hK3.out.2.2.below hb35) (And.intro hN5 (hN3.out.below hb35)))))
  replace hb5 := hidden hb5
  replace hw5 := hidden hw5
  clear hB4 hB5 hN5 hb35 kC3 hK3 hN3 hb3 s1 s2 l3
  generalize hKR : ((K r.id : Nat) : Int) = KR at *
  generalize hRI : ((r.id : Nat) : Int) = RI at *
  generalize hf9 : w4.heap.size = b9 at *
  go_upto_region 5 with fail
  rw [hw5.out]
  clear hw5
  go_wp2_with fail
  refine (kW.out _).mono ?_
  rintro ev w6 ⟨rfl, hB6⟩
  have hK6 := hK5.out.2.2.2.1.below hB6
  have y0 := hK6.c0
  have y1 := hK6.c1
  have l6 := hK6.lt
  have hb6 : Below w.heap.size w w6 := hb5.out.trans (hB6.mono hb5.out.size)
  have kF6 := hidden (kFi.out w6 hb6)
  replace hb6 := hidden hb6
  replace hB6 := hidden hB6
  clear hK6 kW x0 x1 l5
  go_wp2_with fail
  refine (kF6.out).mono ?_
  rintro ev w7 ⟨rfl, hB7⟩
  have hb57 := hB6.out.trans (hB7.mono hB6.out.size)
  have hNA := hK5.out.2.2.2.2.below hb57
  have r0 := hNA.c0
  have r1 := hNA.c1
  have g0 := hNA.f0
  have g1 := hNA.f1
  have lA := hNA.lt
  have e0 := setCell_self r0
  have e1 := setCell_self r1
  have hE := hidden (And.intro hNA (hb6.out.trans (hB7.mono hb6.out.size)))
  clear hNA hB7 kF6 y0 y1 l6 hb57
  go_wp2
  (try simp only [Exit.inBlock, Exit.then])
  exact bodyPost_ret (ret_fnode rfl rfl hE.out.1) rfl ⟨rfl, hE.out.2⟩
set_option maxHeartbeats 2000000 in
theorem rename_loop (h : Fsz fb rs hb E K D T f lim w) {a b s t : List UInt8} {l l2 : List (List UInt8)} {p i : Nat} {r : Rec} {lv : List (List Nat)} (m : LoopT K T E.tn a b l l2 s t p i r lv) :
    Calls Tryz.prog 38 #[ptr fb, .string (mkB a), .string (mkB b)] w fun e w' => ∃ ev, e = .returned ev /\ Refused fb rs hb E K D T f lim 20 w ev w' := by
  have hah := h.s.to.lts
  have hfbl := h.at_.lt
  refine rename_fvia (m := 20) (Q := fun ev w' => Refused fb rs hb E K D T f lim 20 w ev w') m.la m.lb m.pa m.pb (by simp) (by simp) (fun wx b0 b1 b2 b3 hx hb3 hbx => ?_)
  have hr := h.rest.below hx
  have kM := move_loop hr.at_ hr.s.to h.pl.rest_ok hr.tree h.pl.tn1 m
  have kR := rename1_err (x := 0) (k := 0) (m := 20) (Q := fun w1 => Below w.heap.size w w1) hbx (kM.mono (by
    rintro e w1 ⟨rfl, hB1⟩
    have hbw : Below w.heap.size w w1 := hx.trans (hB1.mono hx.size)
    exact ⟨rfl, hbx.n.below hB1, (hbw.setCell (p := ⟨b3, 0, none⟩) hb3 _).setCell (p := ⟨b3, 1, none⟩) hb3 _⟩))
  refine (step_err (E := E.rest) (K := K) (D := D) (f := f) (u := 0) (lim := lim) (P := fun w1 _ => Below w.heap.size w w1) (m := 20) rfl ent_rename1 hr.at_ hr.far h.pl.rest_ok (kR.mono ?_)).mono ?_
  · rintro e w1 ⟨rfl, hB⟩
    have hz1 := h.rest.below hB
    exact ⟨[], _, rfl, rfl, hB, hz1.at_, hz1.s⟩
  · rintro e w2 ⟨ll, ev, w1, rfl, hc, hB, hF2, hS2, hA⟩
    exact ⟨ll, ev, rfl, hc, ⟨ll, hc⟩, ⟨hF2, hS2, h.pl.at _ _ _ _ _, h.far, h.tree⟩, turns_err hB (Below.refl _ _) hA⟩
set_option maxHeartbeats 2000000 in
theorem rename_deep (h : Fsz fb rs hb E K D T f lim w) {a b s t : List UInt8} {l l2 : List (List UInt8)} {p i : Nat} {r : Rec} {lv : List (List Nat)} (m : DeepT K T E.tn a b l l2 s t p i r lv) :
    Calls Tryz.prog 38 #[ptr fb, .string (mkB a), .string (mkB b)] w fun e w' => ∃ ev, e = .returned ev /\ Refused fb rs hb E K D T f lim 10 w ev w' := by
  have hah := h.s.to.lts
  have hfbl := h.at_.lt
  refine rename_fvia (m := 10) (Q := fun ev w' => Refused fb rs hb E K D T f lim 10 w ev w') m.la m.lb m.pa m.pb (by simp) (by simp) (fun wx b0 b1 b2 b3 hx hb3 hbx => ?_)
  have hr := h.rest.below hx
  have kM := move_deep hr.at_ hr.s.to h.pl.rest_ok hr.tree h.pl.tn1 m
  have kR := rename1_err (x := 0) (k := 0) (m := 10) (Q := fun w1 => Below w.heap.size w w1) hbx (kM.mono (by
    rintro e w1 ⟨rfl, hB1⟩
    have hbw : Below w.heap.size w w1 := hx.trans (hB1.mono hx.size)
    exact ⟨rfl, hbx.n.below hB1, (hbw.setCell (p := ⟨b3, 0, none⟩) hb3 _).setCell (p := ⟨b3, 1, none⟩) hb3 _⟩))
  refine (step_err (E := E.rest) (K := K) (D := D) (f := f) (u := 0) (lim := lim) (P := fun w1 _ => Below w.heap.size w w1) (m := 10) rfl ent_rename1 hr.at_ hr.far h.pl.rest_ok (kR.mono ?_)).mono ?_
  · rintro e w1 ⟨rfl, hB⟩
    have hz1 := h.rest.below hB
    exact ⟨[], _, rfl, rfl, hB, hz1.at_, hz1.s⟩
  · rintro e w2 ⟨ll, ev, w1, rfl, hc, hB, hF2, hS2, hA⟩
    exact ⟨ll, ev, rfl, hc, ⟨ll, hc⟩, ⟨hF2, hS2, h.pl.at _ _ _ _ _, h.far, h.tree⟩, turns_err hB (Below.refl _ _) hA⟩
end
end Go.Proofs.YtpofmiecjkghgaaGreatDoor
