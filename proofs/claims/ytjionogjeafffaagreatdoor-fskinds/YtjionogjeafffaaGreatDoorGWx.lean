/- A move onto what may not be replaced. -/
import Derived.Test.YtjionogjeafffaaGreatDoorGWu
import Derived.Deep.RegionHeld
import Derived.Test.YtjionogjeafffaaGreatDoorGXf
import Derived.Test.YtjionogjeafffaaGreatDoorGWs
namespace Go.Proofs.YtjionogjeafffaaGreatDoor
open Go.RowKit Go.Extern.Stop Go.Stop Go.Extern Go.Maps Go.Sort Go.Shelf
set_option maxRecDepth 1000000

/-- What move's last region reads: what stands there, x, from, to. -/
structure MvC (nb b8 b9 b11 : Nat) (RY KY RI KX : Int) (va : Option Addr) (LL vc : Nat) (s : ByteArray) (db : Nat) (va8 : Option Addr) (vc8 : Nat) (t : ByteArray) (db2 : Nat) (w : World) : Prop where
  g : FnAt w nb RY KY
  x : FnAt w b9 RI KX
  s : SpAt w b8 (.slice va LL vc) s (ptr db)
  t : SpAt w b11 (.slice va8 LL vc8) t (ptr db2)
theorem MvC.keep {nb b8 b9 b11 : Nat} {RY KY RI KX : Int} {va : Option Addr} {LL vc : Nat} {s : ByteArray} {db : Nat} {va8 : Option Addr} {vc8 : Nat} {t : ByteArray} {db2 : Nat} {w w' : World} {bs : List Nat} (h : MvC nb b8 b9 b11 RY KY RI KX va LL vc s db va8 vc8 t db2 w) (ha : Apart bs w w') (h1 : nb ∉ bs) (h2 : b8 ∉ bs) (h3 : b9 ∉ bs) (h4 : b11 ∉ bs) : MvC nb b8 b9 b11 RY KY RI KX va LL vc s db va8 vc8 t db2 w' := ⟨h.g.keep ha h1, h.x.keep ha h3, h.s.keep ha h2, h.t.keep ha h4⟩
section
variable {fb rs hb : Nat} {E : TE} {w w' : World} {K : Nat → Nat} {D : Nat → List Int} {T : Nat → List Rec} {f u lim : Nat}
/-- What such a move asks of the two paths. -/
structure ClashT (K : Nat → Nat) (T : Nat → List Rec) (tn : Nat) (a b : List UInt8) (l : List (List UInt8)) (s t : List UInt8) (p i0 j : Nat) (r ry : Rec) (kx ky : Nat) (lv : List (List Nat)) : Prop where
  la : a.length ≤ 2000
  lb : b.length ≤ 2000
  pa : splitB a = some (l ++ [s])
  pb : splitB b = some (l ++ [t])
  ne : a ≠ b
  out : withinB b a = false
  dir : dirT K T l = .ok p
  at_ : (T p)[i0]? = some r
  name : r.s = s
  aty : (T p)[j]? = some ry
  namey : ry.s = t
  file : K r.id = kx
  filey : K ry.id = ky
  lvok : LvOk K T tn r.id lv
  fit : l.length + 1 + lv.length ≤ 7
set_option maxHeartbeats 8000000 in
theorem move_clash (hF : FsAt fb E rs hb w) (h : S8 E K D f u lim w) (ok : E.Ok) (ht : TreeOk E.tn K D T) (htn : 1 ≤ E.tn) {a b s t : List UInt8} {l : List (List UInt8)} {p i0 j kx ky : Nat} {r ry : Rec} {lv : List (List Nat)} (m : ClashT K T E.tn a b l s t p i0 j r ry kx ky lv) {z : Int}
    (kRep : ∀ (wx : World) (db db2 : Nat) (va va2 : Option Addr) (vn vc vn2 vc2 : Nat), Calls Tryz.prog 115 #[ptr fb, fnV (r.id : Nat) (kx : Nat), fnV (ry.id : Nat) (ky : Nat), spV (.slice va vn vc) (mkB s) (ptr db), spV (.slice va2 vn2 vc2) (mkB t) (ptr db2)] wx fun e w' => e = .returned (num z) ∧ Below wx.heap.size wx w') :
    Calls Tryz.prog 64 #[ptr fb, .string (mkB a), .string (mkB b)] w fun e w' => e = .returned (.tuple #[fnV (ry.id : Nat) (ky : Nat), num z]) ∧ Below w.heap.size w w' := by
  have hmp := may_all (split_may m.pb)
  have hl6 : l.length ≤ 6 := by have := hmp.1; rw [List.length_append] at this; omega
  have hdin : 1 ≤ p ∧ p ≤ E.tn ∧ K p = 2 := by
    have hd := m.dir
    unfold dirT at hd
    cases hw : walkT K T 1 l with
    | error z => rw [hw] at hd; cases hd
    | ok q =>
      rw [hw] at hd
      have h' : (if K q = 2 then Except.ok q else Except.error (14 : Int)) = Except.ok p := hd
      by_cases hk : K q = 2
      · rw [if_pos hk] at h'
        obtain rfl := Except.ok.inj h'
        have := walkT_in ht l 1 q (Nat.le_refl _) htn (by rw [ht.root]; decide) hw
        exact ⟨this.1, this.2.1, hk⟩
      · rw [if_neg hk] at h'; cases h'
  obtain ⟨p1, p2, hkp⟩ := hdin
  obtain ⟨hD, hG⟩ := ht.recs p p1 p2 hkp
  have hrm := List.mem_of_getElem? m.at_
  obtain ⟨hrt, hrk⟩ := ht.used p p1 p2 hkp r hrm
  have hym := List.mem_of_getElem? m.aty
  obtain ⟨hyt, hyk'⟩ := ht.used p p1 p2 hkp ry hym
  have htn200 : E.tn ≤ 200 := by have := ok.tn; omega
  have hr1 : 1 ≤ r.id := (hG.each r hrm).lo
  obtain ⟨w1, hw1, hB1, hN1⟩ : ∃ w1, w.alloc (Obj.cells #[.int .i64 0, .int .i64 0] 122) = w1 ∧ Below w.heap.size w w1 ∧ FnAt w1 w.heap.size 0 0 := ⟨_, rfl, (Below.refl _ _).alloc (Nat.le_refl _) _, fn_new _ _ _⟩
  have kSp := hidden (fun (wx : World) (hx : Below w.heap.size w wx) => And.intro (fspot_calls (hF.below hx) (h.more hx) ok ht htn m.la m.pa) (fspot_calls (hF.below hx) (h.more hx) ok ht htn m.lb m.pb))
  have kC := hidden (fun (wx : World) (hx : Below w.heap.size w wx) (db : Nat) (hd : DirAt E db p wx) => And.intro (child_at (hF.below hx) (h.more hx) ok p1 p2 hkp hD hG hd m.at_ hrt hrk) (child_at (hF.below hx) (h.more hx) ok p1 p2 hkp hD hG hd m.aty hyt hyk'))
  rw [m.name, m.namey, m.filey] at kC
  have kW := hidden (fun (wx : World) => within_calls b a wx m.lb m.la)
  rw [m.out] at kW
  have hKx := m.file
  have kFi := hidden (fun (wx : World) (hx : Below w.heap.size w wx) => fits_ok (hF.below hx) (h.more hx) ok ht hr1 hrt m.lvok m.lb m.pb (by rw [List.length_append]; have := m.fit; simp; omega))
  have kE := hidden kRep
  rw [hKx] at kFi kC
  have hdir := hidden m.dir
  have hne : ((mkB a).toList == (mkB b).toList) = false := by rw [mk_beq]; exact decide_eq_false m.ne
  have hBN := hidden (And.intro hB1 hN1)
  have hmbl : E.mb < w.heap.size := h.lts.2.2.2.2.1
  clear hF h ok ht hG hD hB1 hN1 m hmp hrm hrk hym hyt hyk' kRep hKx
  generalize hKXe : ((kx : Nat) : Int) = KX at *
  generalize hKYe : ((ky : Nat) : Int) = KY at *
  go_enter Tryz.func64, Tryz.ntmps64
  go_wp2_with fail
  refine ((kSp.out w1 hBN.out.1).1).mono ?_
  rintro ev w2 ⟨(⟨q, v2, db, hq, rfl, hT2, hD2, hdb, -, -, -⟩ | ⟨z, bk, nm, hq, -⟩), hB2⟩
  rotate_left
  · rw [hdir.out] at hq; cases hq
  obtain rfl : q = p := by rw [hdir.out] at hq; exact (Except.ok.inj hq).symm
  have hT2h := hidden hT2
  obtain ⟨va, vc, rfl, -⟩ := hT2
  obtain ⟨w3, hw3, hB3, hS3⟩ : ∃ w3, w2.alloc (.cells #[.slice va l.length vc, .string (mkB s), ptr db] 181) = w3 ∧ Below w2.heap.size w2 w3 ∧ SpAt w3 w2.heap.size (.slice va l.length vc) (mkB s) (ptr db) := ⟨_, rfl, (Below.refl _ _).alloc (Nat.le_refl _) _, sp_new _ _ _ _⟩
  have hb2 : Below w.heap.size w w2 := hBN.out.1.trans (hB2.mono hBN.out.1.size)
  have o8 : w.heap.size < w2.heap.size := by have := hBN.out.2.lt; have := hB2.size; omega
  have od : w.heap.size < db := by have := hBN.out.2.lt; omega
  have hb3 : Below w.heap.size w w3 := hb2.trans (hB3.mono hb2.size)
  have s1 := hS3.c1
  have s2 := hS3.c2
  have l3 := hS3.lt
  have kC3 := hidden (kC.out w3 hb3 db (hD2.below hB3)).1
  have hN3 := hidden ((hBN.out.2.below hB2).below hB3)
  have hK3 := hidden (And.intro (hT2h.out.below hB3) (And.intro (hD2.below hB3) hS3))
  replace hb3 := hidden hb3
  replace hw3 := hidden hw3
  clear hT2h hD2 hS3 hB2 hB3 hb2 hBN hq
  generalize hLL : l.length = LL at *
  generalize hf8 : w2.heap.size = b8 at *
  go_upto_region 2 with fail
  rw [hw3.out]
  clear hw3
  go_wp2_with fail
  refine (kC3.out).mono ?_
  rintro ev w4 ⟨rfl, hB4⟩
  obtain ⟨w5, hw5, hB5, hN5⟩ : ∃ w5, w4.alloc (.cells #[.int .i64 (r.id : Nat), .int .i64 KX] 122) = w5 ∧ Below w4.heap.size w4 w5 ∧ FnAt w5 w4.heap.size (r.id : Nat) KX := ⟨_, rfl, (Below.refl _ _).alloc (Nat.le_refl _) _, fn_new _ _ _⟩
  have o9 : w.heap.size < w4.heap.size := by have := hN3.out.lt; have := hB4.size; omega
  have hb35 : Below w3.heap.size w3 w5 := hB4.trans (hB5.mono hB4.size)
  have hb5 : Below w.heap.size w w5 := hb3.out.trans (hb35.mono hb3.out.size)
  have x0 := hN5.c0
  have x1 := hN5.c1
  have l5 := hN5.lt
  have hK5 := hidden (And.intro (hK3.out.1.below hb35) (And.intro (hK3.out.2.1.below hb35) (And.intro (hK3.out.2.2.below hb35) (And.intro hN5 (hN3.out.below hb35)))))
  replace hb5 := hidden hb5
  replace hw5 := hidden hw5
  clear hB4 hB5 hN5 hb35 kC3 hK3 hN3 hb3 s1 s2 l3
  generalize hRI : ((r.id : Nat) : Int) = RI at *
  generalize hRY : ((ry.id : Nat) : Int) = RY at *
  generalize hf9 : w4.heap.size = b9 at *
  go_upto_region 5 with fail
  rw [hw5.out]
  clear hw5
  go_wp2_with fail
  refine (kW.out _).mono ?_
  rintro ev w6 ⟨rfl, hB6⟩
  have hK6 := hK5.out.2.2.2.1.below hB6
  have y0 := hK6.c0
  have y1 := hK6.c1
  have l6 := hK6.lt
  have hb6 : Below w.heap.size w w6 := hb5.out.trans (hB6.mono hb5.out.size)
  have kF6 := hidden (kFi.out w6 hb6)
  replace hb6 := hidden hb6
  replace hB6 := hidden hB6
  clear hK6 kW x0 x1 l5
  go_wp2_with fail
  refine (kF6.out).mono ?_
  rintro ev w7 ⟨rfl, hB7⟩
  have hb7 : Below w.heap.size w w7 := hb6.out.trans (hB7.mono hb6.out.size)
  have kS7 := hidden (kSp.out w7 hb7).2
  have hb57 := hidden (hB6.out.trans (hB7.mono hB6.out.size))
  replace hb7 := hidden hb7
  clear hB7 kF6 kFi kSp y0 y1 l6 hb6 hB6
  go_wp2_with fail
  refine (kS7.out).mono ?_
  rintro ev w8 ⟨(⟨q2, v8, db2, hq2, rfl, hT8, hD8, hdb8, -, -, -⟩ | ⟨z, bk, nm, hq2, -⟩), hB8⟩
  rotate_left
  · rw [hdir.out] at hq2; cases hq2
  obtain rfl : q2 = q := by rw [hdir.out] at hq2; exact (Except.ok.inj hq2).symm
  have hT8h := hidden hT8
  obtain ⟨va8, vc8, rfl, -⟩ := hT8
  rw [hLL] at hT8h ⊢
  obtain ⟨w9, hw9, hB9, hS9⟩ : ∃ w9, w8.alloc (.cells #[.slice va8 LL vc8, .string (mkB t), ptr db2] 181) = w9 ∧ Below w8.heap.size w8 w9 ∧ SpAt w9 w8.heap.size (.slice va8 LL vc8) (mkB t) (ptr db2) := ⟨_, rfl, (Below.refl _ _).alloc (Nat.le_refl _) _, sp_new _ _ _ _⟩
  have o11 : w.heap.size < w8.heap.size := by have := hK5.out.2.2.2.2.lt; have := hb57.out.size; have := hB8.size; omega
  have od2 : w.heap.size < db2 := by have := hK5.out.2.2.2.2.lt; have := hb57.out.size; omega
  have hb79 : Below w7.heap.size w7 w9 := hB8.trans (hB9.mono hB8.size)
  have hb59 : Below w5.heap.size w5 w9 := hb57.out.trans (hb79.mono hb57.out.size)
  have hb9 : Below w.heap.size w w9 := hb7.out.trans (hb79.mono hb7.out.size)
  have s1 := hS9.c1
  have s2 := hS9.c2
  have l9 := hS9.lt
  have kC9 := hidden (kC.out w9 hb9 db2 (hD8.below hB9)).2
  have hK9 := hidden (And.intro (hK5.out.1.below hb59) (And.intro (hK5.out.2.1.below hb59) (And.intro (hK5.out.2.2.1.below hb59) (And.intro (hK5.out.2.2.2.1.below hb59) (And.intro (hK5.out.2.2.2.2.below hb59) (And.intro (hT8h.out.below hB9) (And.intro hS9 (hD8.below hB9))))))))
  replace hb9 := hidden hb9
  replace hw9 := hidden hw9
  clear hT8h hD8 hS9 hB8 hB9 hb79 hb59 hb57 hK5 hb5 hb7 kS7 hq2 kC hdb8
  generalize hf11 : w8.heap.size = b11 at *
  go_upto_region 15 with fail
  rw [hw9.out]
  clear hw9
  go_wp2_with fail
  refine (kC9.out).mono ?_
  rintro ev wA ⟨rfl, hBA⟩
  obtain ⟨kT1, kD1, kS1, kX1, kN1, kT2, kS2, kD2⟩ := hK9.out
  have hNA := kN1.below hBA
  have r0 := hNA.c0
  have r1 := hNA.c1
  have g0 := hNA.f0
  have g1 := hNA.f1
  have lA := hNA.lt
  have hbA : Below w.heap.size w wA := hb9.out.trans (hBA.mono hb9.out.size)
  obtain ⟨wG, hwG, hAG, hNG⟩ : ∃ wG, (wA.setCell ⟨w.heap.size, 0, none⟩ (.int .i64 RY)).setCell ⟨w.heap.size, 1, none⟩ (.int .i64 KY) = wG ∧ Apart [w.heap.size] wA wG ∧ FnAt wG w.heap.size RY KY := ⟨_, rfl, fn_apart _ _ _ _, fn_stored hNA⟩
  have hbG : Below w.heap.size w wG := hbA.trans (hAG.below (by simp) hbA.size)
  have q8 : b8 ∉ [w.heap.size] := by simp; omega
  have q9 : b9 ∉ [w.heap.size] := by simp; omega
  have q11 : b11 ∉ [w.heap.size] := by simp; omega
  have hM := hidden (show MvC w.heap.size b8 b9 b11 RY KY RI KX va LL vc (mkB s) db va8 vc8 (mkB t) db2 wG from ⟨hNG, (kX1.below hBA).keep hAG q9, (kS1.below hBA).keep hAG q8, (kS2.below hBA).keep hAG q11⟩)
  have kEA := hidden (kE.out wG.drew db db2 va va8 LL vc LL vc8)
  have kIs := hidden (is_nil 11 wG)
  replace hbG := hidden (hbG.trans ((below_drew1 wG).mono hbG.size))
  replace hwG := hidden hwG
  clear kT1 kD1 kS1 kX1 kN1 kT2 kS2 kD2 hNA hBA kC9 kE hK9 hb9 s1 s2 l9 hAG hNG hbA q8 q9 q11
  go_upto_region 18 with fail
  rw [hwG.out]
  clear hwG r0 r1 g0 g1 lA
  go_wp2_with fail
  refine (kIs.out).mono ?_
  rintro ev wB ⟨rfl, hwB⟩
  subst wB
  clear kIs
  go_upto_region 22 with fail
  have hS0 := hidden (hM.out.keep (Apart.of_below (bs := []) (below_drew1 wG)) (by simp) (by simp) (by simp) (by simp))
  refine wp_region_held_drew (S := MvC w.heap.size b8 b9 b11 RY KY RI KX va LL vc (mkB s) db va8 vc8 (mkB t) db2) (by kernel_rfl) hS0.out ?_
  intro _
  generalize wG.drew = wd at *
  refine wpAnyH_take (i := 0) (v := ?_) rfl (by kernel_rfl) (by kernel_rfl) (by kernel_rfl) (fun _ _ _ h => h) (Or.inl ⟨by rfl, ?_⟩) hS0.out ?_
  rotate_left
  · intro w hw; have hh := (hw).g; have c0 := hh.c0; have c1 := hh.c1; have lc := hh.lt; clear hh; clear hw; go_simp; try (with_reducible rfl)
  refine wpAnyH_take (i := 1) (v := ?_) rfl (by kernel_rfl) (by kernel_rfl) (by kernel_rfl) (fun _ _ _ h => h) (Or.inl ⟨by rfl, ?_⟩) hS0.out ?_
  rotate_left
  · intro w hw; clear hw; go_simp; try (with_reducible rfl)
  refine wpAnyH_take (i := 2) (v := ?_) rfl (by kernel_rfl) (by kernel_rfl) (by kernel_rfl) (fun _ _ _ h => h) (Or.inl ⟨by rfl, ?_⟩) hS0.out ?_
  rotate_left
  · intro w hw; have hh := (hw).x; have c0 := hh.c0; have c1 := hh.c1; have lc := hh.lt; clear hh; clear hw; go_simp; try (with_reducible rfl)
  refine wpAnyH_take (i := 3) (v := ?_) rfl (by kernel_rfl) (by kernel_rfl) (by kernel_rfl) (fun _ _ _ h => h) (Or.inl ⟨by rfl, ?_⟩) hS0.out ?_
  rotate_left
  · intro w hw; have hh := (hw).g; have c0 := hh.c0; have c1 := hh.c1; have lc := hh.lt; clear hh; clear hw; go_simp; try (with_reducible rfl)
  refine wpAnyH_take (i := 4) (v := ?_) rfl (by kernel_rfl) (by kernel_rfl) (by kernel_rfl) (fun _ _ _ h => h) (Or.inl ⟨by rfl, ?_⟩) hS0.out ?_
  rotate_left
  · intro w hw; have hh := (hw).s; have c0 := hh.c0; have c1 := hh.c1; have c2 := hh.c2; have lc := hh.lt; clear hh; clear hw; go_simp; try (with_reducible rfl)
  refine wpAnyH_ready (rs := [5]) (by kernel_rfl) (by simp) ?_
  refine AllReadyH.cons rfl (fun K hK => ?_) AllReadyH.nil
  have hh := (hS0.out).t; have c0 := hh.c0; have c1 := hh.c1; have c2 := hh.c2; have lc := hh.lt; clear hh
  go_simp
  refine hK.out _ _ hS0.out (fun _ => ?_)
  clear hK K
  refine wpAnyH_ready (rs := [6]) (by kernel_rfl) (by simp) ?_
  refine AllReadyH.cons rfl (fun K hK => ?_) AllReadyH.nil
  go_simp
  go_wp2_with (go_at_call 115; refine (kEA.out).mono ?_; rintro ev w6 ⟨rfl, hB6⟩)
  refine hK.out _ _ (MvC.keep hS0.out (Apart.of_below (bs := []) hB6) (by simp) (by simp) (by simp) (by simp)) (fun hSn1 => ?_)
  have hE := hidden (hbG.out.trans (hB6.mono hbG.out.size))
  clear hB6 kEA
  clear hK K
  refine wpAnyH_ready (rs := [7]) (by kernel_rfl) (by simp) ?_
  refine AllReadyH.cons rfl (fun K hK => ?_) AllReadyH.nil
  have hh := (hSn1).g; have r0 := hh.c0; have r1 := hh.c1; have g0 := hh.f0; have g1 := hh.f1; have lg := hh.lt; have e0 := setCell_self r0; have e1 := setCell_self r1; clear hh
  go_simp
  refine hK.out _ _ (hSn1) (fun hSn2 => ?_)
  clear r0 r1 g0 g1 lg e0 e1
  clear hK K
  refine wpAnyH_ready (rs := [8]) (by kernel_rfl) (by simp) ?_
  refine AllReadyH.cons rfl (fun K hK => ?_) AllReadyH.nil
  go_simp
  refine hK.out _ _ hSn2 (fun _ => ?_)
  clear hK K
  refine wpAnyH_done (by kernel_rfl) ?_ _
  go_wp2
  (try simp only [Exit.inBlock, Exit.then])
  exact bodyPost_ret (ret_fnode rfl rfl (hSn2).g) rfl ⟨by first | rfl | (rw [hRY]; rfl), hE.out⟩
set_option maxHeartbeats 1000000 in
theorem replace_dirx {kx ky : Int} {x y : Int} (hk : kx = 2) (va va2 : Option Addr) (vn vc vn2 vc2 db db2 : Nat) (s t : List UInt8) :
    Calls Tryz.prog 115 #[ptr fb, fnV x kx, fnV y ky, spV (.slice va vn vc) (mkB s) (ptr db), spV (.slice va2 vn2 vc2) (mkB t) (ptr db2)] w fun e w' => e = .returned (num 12) ∧ Below w.heap.size w w' := by
  subst hk
  have hB := hidden (fun (o1 o2 o3 o4 : Obj) => show Below w.heap.size w ((((w.alloc o1).alloc o2).alloc o3).alloc o4) from ((((Below.refl _ _).alloc (Nat.le_refl _) o1).alloc (by simp) o2).alloc (by simp; omega) o3).alloc (by simp; omega) o4)
  go_enter Tryz.func115, Tryz.ntmps115
  go_wp2
  go_ret
  exact ⟨rfl, hB.out _ _ _ _⟩
set_option maxHeartbeats 1000000 in
theorem replace_diry {kx ky : Int} {x y : Int} (hk : kx = 1) (hy : ky = 2) (va va2 : Option Addr) (vn vc vn2 vc2 db db2 : Nat) (s t : List UInt8) :
    Calls Tryz.prog 115 #[ptr fb, fnV x kx, fnV y ky, spV (.slice va vn vc) (mkB s) (ptr db), spV (.slice va2 vn2 vc2) (mkB t) (ptr db2)] w fun e w' => e = .returned (num 13) ∧ Below w.heap.size w w' := by
  subst hk hy
  have hB := hidden (fun (o1 o2 o3 o4 : Obj) => show Below w.heap.size w ((((w.alloc o1).alloc o2).alloc o3).alloc o4) from ((((Below.refl _ _).alloc (Nat.le_refl _) o1).alloc (by simp) o2).alloc (by simp; omega) o3).alloc (by simp; omega) o4)
  go_enter Tryz.func115, Tryz.ntmps115
  go_wp2
  go_ret
  exact ⟨rfl, hB.out _ _ _ _⟩
end
end Go.Proofs.YtjionogjeafffaaGreatDoor
/- A Rename onto what may not be replaced. -/
namespace Go.Proofs.YtjionogjeafffaaGreatDoor
open Go.RowKit Go.Extern.Stop Go.Stop Go.Extern Go.Maps Go.Sort Go.Shelf
set_option maxRecDepth 100000

section
variable {fb rs hb : Nat} {E : TE} {w w' : World} {K : Nat → Nat} {D : Nat → List Int} {T : Nat → List Rec} {f u lim : Nat}
set_option maxHeartbeats 1000000 in
theorem rename1_err {b0 b1 b2 b3 : Nat} {a b : List UInt8} {x k m : Int} {Q : World → Prop} (hB : RBox b0 b1 b2 b3 fb a b 0 0 w)
    (kM : Calls Tryz.prog 64 #[ptr fb, .string (mkB a), .string (mkB b)] w fun e w1 => e = .returned (.tuple #[fnV x k, num m]) ∧ FnAt w1 b3 0 0 ∧ Q ((w1.setCell ⟨b3, 0, none⟩ (.int .i64 x)).setCell ⟨b3, 1, none⟩ (.int .i64 k))) :
    Calls Tryz.prog 63 #[ptr b0, ptr b1, ptr b2, ptr b3] w fun e w' => e = .returned (num m) ∧ Q w' := by
  have c0 := hB.c0
  have c1 := hB.c1
  have c2 := hB.c2
  have l0 := lt_of_cell (a := ⟨b0, 0, none⟩) c0
  have l1 := lt_of_cell (a := ⟨b1, 0, none⟩) c1
  have l2 := lt_of_cell (a := ⟨b2, 0, none⟩) c2
  replace kM := hidden kM
  clear hB
  go_enter Tryz.func63, Tryz.ntmps63
  go_wp2_with fail
  refine (kM.out).mono ?_
  rintro ev w1 ⟨rfl, hN, hQ⟩
  have d0 := hN.c0
  have d1 := hN.c1
  have e0 := hN.f0
  have e1 := hN.f1
  have l3 := hN.lt
  replace hQ := hidden hQ
  clear hN kM
  go_wp2
  go_ret
  exact ⟨rfl, hQ.out⟩
set_option maxHeartbeats 2000000 in
/-- rename, by a step that is refused. -/
theorem rename_fvia {a b : List UInt8} {la lb : List (List UInt8)} {m : Int} (hla : a.length ≤ 2000) (hlb : b.length ≤ 2000) (hpa : splitB a = some la) (hpb : splitB b = some lb) (na : la ≠ []) (nb : lb ≠ []) {Q : Value → World → Prop}
    (kS : ∀ (wx : World) (b0 b1 b2 b3 : Nat), Below w.heap.size w wx → w.heap.size ≤ b3 → RBox b0 b1 b2 b3 fb a b 0 0 wx → Calls Tryz.prog 57 #[ptr fb, .func (.func 63) #[] #[ptr b0, ptr b1, ptr b2, ptr b3]] wx fun e w' => ∃ ll ev, e = .returned ev ∧ Chain w' ll (num m) ev ∧ Q ev w') :
    Calls Tryz.prog 35 #[ptr fb, .string (mkB a), .string (mkB b)] w fun e w' => ∃ ev, e = .returned ev ∧ Q ev w' := by
  have hmf : ∀ (fn : Fn) (first cap : Array Value) (w : World), (Instr.makeFunc fn first cap).run Tryz.prog w = .ok (.func fn first cap) w := fun _ _ _ _ => rfl
  obtain ⟨w1, hw1, hB1, g0, g1, g2⟩ := boxesR w fb a b
  have l0 := lt_of_cell (a := ⟨w.heap.size, 0, none⟩) g0
  have l1 := lt_of_cell (a := ⟨w.heap.size + 1, 0, none⟩) g1
  have l2 := lt_of_cell (a := ⟨w.heap.size + 1 + 1, 0, none⟩) g2
  have kA := split_calls a w1 hla
  unfold ToldS at kA
  rw [hpa] at kA
  replace kA := hidden kA
  have kB := fun wx => split_calls b wx hlb
  unfold ToldS at kB
  rw [hpb] at kB
  replace kB := hidden kB
  have hna : ((la.length : Int) == 0) = false := by have := List.length_pos_iff.2 na; simp; omega
  have hnb : ((lb.length : Int) == 0) = false := by have := List.length_pos_iff.2 nb; simp; omega
  have hb1 := hidden hB1
  replace kS := hidden kS
  replace hw1 := hidden hw1
  clear hB1
  go_enter Tryz.func35, Tryz.ntmps35
  go_upto_region 1 with fail
  rw [hw1.out]
  clear hw1
  go_wp2_with fail
  refine (kA.out).mono ?_
  rintro ev w2 ⟨v2, rfl, hT2, hB2⟩
  have hT2' : TxtsAt w2 v2 la := hT2
  obtain ⟨a2, c2, rfl, -⟩ := hT2'
  have k0 := (hB2.cell (p := ⟨w.heap.size, 0, none⟩) l0).trans g0
  have k1 := (hB2.cell (p := ⟨w.heap.size + 1, 0, none⟩) l1).trans g1
  have k2 := (hB2.cell (p := ⟨w.heap.size + 1 + 1, 0, none⟩) l2).trans g2
  have m2 := lt_of_cell (a := ⟨w.heap.size + 1 + 1, 0, none⟩) k2
  have m0 := lt_of_cell (a := ⟨w.heap.size, 0, none⟩) k0
  have m1 := lt_of_cell (a := ⟨w.heap.size + 1, 0, none⟩) k1
  have hb2 := hidden (hb1.out.trans (hB2.mono hb1.out.size))
  clear hT2 hB2 kA g0 g1 g2 l0 l1 l2
  dsimp only [Option.isSome]
  go_wp2_with fail
  refine (kB.out _).mono ?_
  rintro ev w3 ⟨v3, rfl, hT3, hB3⟩
  have hT3' : TxtsAt w3 v3 lb := hT3
  obtain ⟨a3, c3, rfl, -⟩ := hT3'
  have hb3 : Below w.heap.size w w3 := hb2.out.trans (hB3.mono hb2.out.size)
  have n0 := (hB3.cell (p := ⟨w.heap.size, 0, none⟩) m0).trans k0
  have n1 := (hB3.cell (p := ⟨w.heap.size + 1, 0, none⟩) m1).trans k1
  have n2 := (hB3.cell (p := ⟨w.heap.size + 1 + 1, 0, none⟩) m2).trans k2
  obtain ⟨w4, hw4, hB4, hN4⟩ : ∃ w4, w3.alloc (Obj.cells #[.int .i64 0, .int .i64 0] 122) = w4 ∧ Below w3.heap.size w3 w4 ∧ FnAt w4 w3.heap.size 0 0 := ⟨_, rfl, (Below.refl _ _).alloc (Nat.le_refl _) _, fn_new _ _ _⟩
  have o0 := (hB4.cell (p := ⟨w.heap.size, 0, none⟩) (lt_of_cell (a := ⟨w.heap.size, 0, none⟩) n0)).trans n0
  have o1 := (hB4.cell (p := ⟨w.heap.size + 1, 0, none⟩) (lt_of_cell (a := ⟨w.heap.size + 1, 0, none⟩) n1)).trans n1
  have o2 := (hB4.cell (p := ⟨w.heap.size + 1 + 1, 0, none⟩) (lt_of_cell (a := ⟨w.heap.size + 1 + 1, 0, none⟩) n2)).trans n2
  have hl0 := lt_of_cell (a := ⟨w.heap.size, 0, none⟩) o0
  have kS4 := hidden (kS.out w4 w.heap.size (w.heap.size + 1) (w.heap.size + 1 + 1) w3.heap.size (hb3.trans (hB4.mono hb3.size)) hb3.size ⟨o0, o1, o2, hN4⟩)
  clear hT3 hB3 hb3 hB4 hN4 kB kS k0 k1 k2 n0 n1 n2 o1 o2 m0 m1 m2 hb1 hb2
  dsimp only [Option.isSome]
  generalize la.length = LA at *
  generalize lb.length = LB at *
  generalize hf3 : w3.heap.size = b3 at *
  replace hw4 := hidden hw4
  go_upto_region 8 with fail
  rw [hw4.out]
  clear hw4
  go_wp2_with fail
  refine (kS4.out).mono ?_
  rintro ev w5 ⟨ll, er, rfl, hc, hQ⟩
  obtain ⟨ut, uv, rfl⟩ := Chain.held hc (Or.inr ⟨_, _, rfl⟩)
  replace hQ := hidden hQ
  clear hc kS4
  go_wp2
  go_ret
  exact ⟨_, rfl, hQ.out⟩
set_option maxHeartbeats 2000000 in
theorem rename_clash (h : Fsz fb rs hb E K D T f lim w) {a b s t : List UInt8} {l : List (List UInt8)} {p i0 j kx ky : Nat} {r ry : Rec} {lv : List (List Nat)} (m : ClashT K T E.tn a b l s t p i0 j r ry kx ky lv) {z : Int} (hz : (z == 50) = false)
    (kRep : ∀ (wx : World) (db db2 : Nat) (va va2 : Option Addr) (vn vc vn2 vc2 : Nat), Calls Tryz.prog 115 #[ptr fb, fnV (r.id : Nat) (kx : Nat), fnV (ry.id : Nat) (ky : Nat), spV (.slice va vn vc) (mkB s) (ptr db), spV (.slice va2 vn2 vc2) (mkB t) (ptr db2)] wx fun e w' => e = .returned (num z) ∧ Below wx.heap.size wx w') :
    Calls Tryz.prog 35 #[ptr fb, .string (mkB a), .string (mkB b)] w fun e w' => ∃ ev, e = .returned ev ∧ Refused fb rs hb E K D T f lim z w ev w' := by
  have hah := h.s.to.lts
  have hfbl := h.at_.lt
  refine rename_fvia (m := z) (Q := fun ev w' => Refused fb rs hb E K D T f lim z w ev w') m.la m.lb m.pa m.pb (by simp) (by simp) (fun wx b0 b1 b2 b3 hx hb3 hbx => ?_)
  have hr := h.rest.below hx
  have kM := move_clash hr.at_ hr.s.to h.pl.rest_ok hr.tree h.pl.tn1 m kRep
  have kR := rename1_err (x := ((ry.id : Nat) : Int)) (k := ((ky : Nat) : Int)) (m := z) (Q := fun w1 => Below w.heap.size w w1) hbx (kM.mono (by
    rintro e w1 ⟨rfl, hB1⟩
    have hbw : Below w.heap.size w w1 := hx.trans (hB1.mono hx.size)
    exact ⟨rfl, hbx.n.below hB1, (hbw.setCell (p := ⟨b3, 0, none⟩) hb3 _).setCell (p := ⟨b3, 1, none⟩) hb3 _⟩))
  refine (step_err (E := E.rest) (K := K) (D := D) (f := f) (u := 0) (lim := lim) (P := fun w1 _ => Below w.heap.size w w1) hz ent_rename1 hr.at_ hr.far h.pl.rest_ok (kR.mono ?_)).mono ?_
  · rintro e w1 ⟨rfl, hB⟩
    have hz1 := h.rest.below hB
    exact ⟨[], _, rfl, rfl, hB, hz1.at_, hz1.s⟩
  · rintro e w2 ⟨ll, ev, w1, rfl, hc, hB, hF2, hS2, hA⟩
    exact ⟨ll, ev, rfl, hc, ⟨ll, hc⟩, ⟨hF2, hS2, h.pl.at _ _ _ _ _, h.far, h.tree⟩, turns_err hB (Below.refl _ _) hA⟩
end
end Go.Proofs.YtjionogjeafffaaGreatDoor
/- FsKinds: what its file system is, call by call. -/
namespace Go.Proofs.YtjionogjeafffaaGreatDoor
open Go.RowKit Go.Extern.Stop Go.Stop Go.Extern Go.Maps Go.Sort Go.Shelf
set_option maxRecDepth 100000

theorem fmt220k : FmtN 220 12 0 111 := ⟨by omega, by omega, by omega, by omega, by omega, by omega, by omega, by omega⟩
def kdK : Nat → Nat := upd (upd rootK 2 2) 3 1
def kdT : Nat → List Rec := upd (fun _ => []) 1 [⟨[100], 2⟩, ⟨[102], 3⟩]
/-- What holds between two calls of FsKinds that are refused. -/
structure KdR (fb hb xb : Nat) (E : TE) (lim : Nat) (w : World) : Prop where
  st : ∃ D f, Fsz fb 0 hb E kdK D kdT f lim w
  x1 : w.cell? ⟨xb, 1, none⟩ = some (ptr fb)
  xn : xb ≠ E.d ∧ xb ≠ E.g ∧ xb ≠ E.mb ∧ xb ≠ fb
  tn : E.tn = 12
  gt : GT E.w0
/-- An error that is kept. -/
def KdE (op nm : ByteArray) (m : Int) (ev : Value) (w : World) : Prop := ∃ ll b, ev = flt b ∧ Chain w ((op, nm) :: ll) (num m) (flt b)
def KdS (fb hb xb lim : Nat) (w0 w : World) : Prop := ∃ E, KdR fb hb xb E lim w ∧ E.w0 = w0
/-- What a call of FsKinds that is refused leaves. -/
def KdA (fb hb xb lim : Nat) (op nm : ByteArray) (m : Int) (w0 w : World) (ev : Value) (w' : World) : Prop :=
  KdS fb hb xb lim w0 w' ∧ KdE op nm m ev w' ∧ ∀ op nm m ev, KdE op nm m ev w → KdE op nm m ev w'
section
variable {fb hb xb rs : Nat} {E : TE} {w0 w w' : World} {lim f u : Nat} {K : Nat → Nat} {D : Nat → List Int} {T : Nat → List Rec}
theorem KdE.below {op nm : ByteArray} {m : Int} {ev : Value} (h : KdE op nm m ev w) (hB : Below w.heap.size w w') : KdE op nm m ev w' := by
  obtain ⟨ll, b, he, hc⟩ := h
  exact ⟨ll, b, he, Chain.below hB _ _ _ hc⟩
theorem KdR.below (h : KdR fb hb xb E lim w) (hB : Below w.heap.size w w') : KdR fb hb xb E lim w' := by
  obtain ⟨⟨D, f, h0⟩, h1, h2, h3, h4⟩ := h
  exact ⟨⟨D, f, h0.below hB⟩, (hB.cell (p := ⟨xb, 1, none⟩) (lt_of_cell (a := ⟨xb, 1, none⟩) h1)).trans h1, h2, h3, h4⟩
theorem KdS.below (h : KdS fb hb xb lim w0 w) (hB : Below w.heap.size w w') : KdS fb hb xb lim w0 w' := by
  obtain ⟨E, h1, h2⟩ := h
  exact ⟨E, h1.below hB, h2⟩
theorem KdS.x1 (h : KdS fb hb xb lim w0 w) : w.cell? ⟨xb, 1, none⟩ = some (ptr fb) := by
  obtain ⟨E, h1, h2⟩ := h
  exact h1.x1
theorem KdS.bel (h : KdS fb hb xb lim w0 w) : Below w0.heap.size w0 w := by
  obtain ⟨E, ⟨⟨D, f, h0⟩, -, -, -, -⟩, rfl⟩ := h
  exact h0.s.to.below
theorem KdS.gt (h : KdS fb hb xb lim w0 w) : GT w := by
  obtain ⟨E, ⟨⟨D, f, h0⟩, -, -, -, hg⟩, rfl⟩ := h
  exact hg.below h0.s.to.below
theorem KdS.ground (h : KdS fb hb xb lim w0 w) : Ground w := by
  obtain ⟨E, ⟨⟨D, f, h0⟩, -, -, -, hg⟩, rfl⟩ := h
  exact h0.s.to.ground
/-- What a call may turn holds no text at its head. -/
theorem Fsz.noText (h : Fsz fb rs hb E K D T f lim w) : ∀ b ∈ [E.d, E.g, E.mb, fb], ∀ s : ByteArray, w.cell? ⟨b, 0, none⟩ ≠ some (.string s) := by
  intro b hb s
  have hm := h.s.to.mapNo 0
  have hf := h.at_.c0
  obtain ⟨mem, wr, N, h1, -⟩ := h.s
  have hd := h1.c.sys.disk
  simp only [List.mem_cons, List.not_mem_nil, or_false] at hb
  rcases hb with rfl | rfl | rfl | rfl
  · obtain ⟨cap, hc⟩ := hd.blocks
    rw [hc]
    exact fun e => by cases e
  · rw [hd.bytes 0 (by have := hd.some; omega)]
    exact fun e => by cases e
  · rw [hm]
    exact fun e => by cases e
  · rw [hf]
    exact fun e => by cases e
theorem KdS.told (hS : KdR fb hb xb E lim w) (he : E.w0 = w0) {op nm : ByteArray} {m : Int} {ev : Value} (hz : Fsz fb 0 hb E kdK D kdT f lim w) (h : Told11 fb 0 hb E kdK D kdT f lim op nm m w ev w') : KdA fb hb xb lim op nm m w0 w ev w' := by
  obtain ⟨⟨ll, b, h1, h2⟩, h3, h4⟩ := h
  have hT : Apart [E.d, E.g, E.mb, fb] w w' := h4
  refine ⟨⟨E.rest, ⟨⟨D, f, h3⟩, (hT.cell (p := ⟨xb, 1, none⟩) (lt_of_cell (a := ⟨xb, 1, none⟩) hS.x1) (by have := hS.xn; simp; omega)).trans hS.x1, hS.xn, hS.tn, hS.gt⟩, he⟩, ⟨ll, b, h1, h2⟩, ?_⟩
  rintro op' nm' m' ev' ⟨l', b', e', hc'⟩
  exact ⟨l', b', e', Chain.apart hT hz.noText _ _ _ hc'⟩
theorem kd_is (hS : KdS fb hb xb lim w0 w) {op nm : ByteArray} {m : Int} {ev : Value} (he : KdE op nm m ev w) (hm : (m == 0) = false) :
    Calls Tryz.prog 11 #[ev, .string op, .string nm, .int .i64 m] w fun e w' => e = .returned (.bool true) ∧ KdS fb hb xb lim w0 w' ∧ Below w.heap.size w w' := by
  obtain ⟨ll, b, rfl, hc⟩ := he
  refine (law_is m hm w op nm ll (flt b) hc hS.gt).mono ?_
  rintro e w' ⟨rfl, hB⟩
  exact ⟨rfl, hS.below hB, hB⟩
/-- Something with nothing below it: its levels. -/
theorem lv_leaf {tn x : Nat} (h1 : 1 ≤ x) (h2 : x ≤ tn) (hkid : kidsT K T x = []) : LvOk K T tn x [[x]] := by
  refine ⟨rfl, fun j l hl => ?_, by simp, fun i hi => by simp at hi; subst hi; exact ⟨h1, h2⟩⟩
  match j, hl with
  | 0, hl =>
    obtain rfl : [x] = l := by simpa using hl
    exact ⟨by simp, by simp [hkid]⟩
  | j + 1, hl => simp at hl
theorem kdClash1 {tn : Nat} (h : tn = 12) : ClashT kdK kdT tn [47, 102] [47, 100] [] [102] [100] 1 1 0 ⟨[102], 3⟩ ⟨[100], 2⟩ 1 2 [[3]] := ⟨by simp, by simp, by decide, by decide, by decide, by decide, by rfl, by rfl, rfl, by rfl, rfl, by rfl, by rfl, lv_leaf (by decide) (by show 3 ≤ tn; omega) (by rfl), by simp⟩
theorem kdClash2 {tn : Nat} (h : tn = 12) : ClashT kdK kdT tn [47, 100] [47, 102] [] [100] [102] 1 0 1 ⟨[100], 2⟩ ⟨[102], 3⟩ 2 1 [[2]] := ⟨by simp, by simp, by decide, by decide, by decide, by decide, by rfl, by rfl, rfl, by rfl, rfl, by rfl, by rfl, lv_leaf (by decide) (by show 2 ≤ tn; omega) (by simp [kidsT, namesT, sortS, kdT, upd]), by simp⟩
theorem kd_mkdir (h : Fsz fb 0 hb E rootK (fun _ => []) (fun _ => []) 111 lim w) (tn : E.tn = 12) (hlim : lim ≤ 100000) :
    Calls Tryz.prog 21 #[ptr fb, .string ⟨#[47, 100]⟩] w fun e w' => e = .returned .nilIface ∧ (∃ D, Fsz fb 0 hb E.rest (upd rootK 2 2) D (upd (fun _ => []) 1 [⟨[100], 2⟩]) 110 (lim + 1000) w') ∧ E.Turns fb w w' := by
  have k := create_new h (path := [47, 100]) (l := []) (s := [100]) (kind := 2) (by simp) (by decide) (p := 1) (by rfl) (by rfl) (by simp) (Or.inr rfl) (id := 2) (by omega) (by rw [tn]; omega) (by rfl) (fun _ => rfl) (fun i a b => by have e : i = 1 := (by omega); rw [e]; decide) (gn := 1) (by decide) (by decide) (by omega)
  refine (fMkdir_ok (path := [47, 100]) (Q := fun w' => (∃ f', f' + 1 = 111 ∧ Fsz fb 0 hb E.rest (upd rootK 2 2) (upd (fun _ => []) 1 (recsL [⟨[100], 2⟩])) (upd (fun _ => []) 1 [⟨[100], 2⟩]) f' (lim + 1000) w') ∧ E.Turns fb w w') k).mono ?_
  rintro e w' ⟨rfl, ⟨f', hf', hz'⟩, hT⟩
  obtain rfl : f' = 110 := by omega
  exact ⟨rfl, ⟨_, hz'⟩, hT⟩
theorem kd_put (h : Fsz fb 0 hb E (upd rootK 2 2) D (upd (fun _ => []) 1 [⟨[100], 2⟩]) 110 lim w) (tn : E.tn = 12) {bv : Value} {xs : List Int} (hbv : BytesC E.mb w bv xs) (hz : xs.length ≤ 3000) (hlim : lim ≤ 100000) :
    Calls Tryz.prog 15 #[ptr fb, .string ⟨#[47, 102]⟩, bv] w fun e w' => e = .returned .nilIface ∧ (∃ D f, Fsz fb 0 hb E.rest kdK D kdT f (lim + 1000) w') ∧ E.Turns fb w w' := by
  obtain ⟨ba, bc, rfl, hrest⟩ := hbv
  have hbv' : BytesC E.mb w (.slice ba xs.length bc) xs := ⟨ba, bc, rfl, hrest⟩
  obtain ⟨bn, hbn, hbn2, hbn3⟩ : ∃ bn : Nat, growb 0 (xs.length : Int) = (bn : Int) ∧ (bn : Int) = blk (xs.length : Int) ∧ bn ≤ 40 := by
    have hb := blk_range (xs.length : Int)
    have hg : growb 0 (xs.length : Int) = blk (xs.length : Int) := by
      have e : blk 0 = 0 := by simp [blk]
      unfold growb
      omega
    exact ⟨(blk (xs.length : Int)).toNat, by omega, by omega, by omega⟩
  have kP := put_new h (path := [47, 102]) (l := []) (s := [102]) (by simp) (by decide) hbv' (by omega) (p := 1) (by rfl) (by rfl) (by show 1 < 120; omega) (id := 3) (by omega) (by rw [tn]; omega) (by rfl) (fun i a b => by rcases (by omega : i = 1 ∨ i = 2) with e | e <;> (rw [e]; decide)) false (gn := 0) (bn := bn) (by decide) hbn (by unfold mayB; simp; omega) (by omega)
  have eT : upd (upd (fun _ => []) 1 [⟨[100], 2⟩]) 1 ((upd (fun _ => []) 1 [⟨[100], 2⟩] : Nat → List Rec) 1 ++ [⟨[102], 3⟩]) = kdT := upd_upd _ _ _ _
  rw [eT] at kP
  refine (fPut_ok (path := [47, 102]) (Q := fun w' => (∃ f', f' + 0 + bn = 110 ∧ Fsz fb 0 hb E.rest kdK (upd (upd D 1 (recsL [⟨[100], 2⟩, ⟨[102], 3⟩])) 3 xs) kdT f' (lim + 1000) w') ∧ E.Turns fb w w') kP).mono ?_
  rintro e w' ⟨rfl, ⟨f', hf', hz'⟩, hT⟩
  exact ⟨rfl, ⟨_, f', hz'⟩, hT⟩
theorem kd_get (h : KdS fb hb xb lim w0 w) : Calls Tryz.prog 17 #[ptr fb, .string ⟨#[47, 100]⟩] w fun e w' => ∃ ev, e = .returned (.tuple #[.slice none 0 0, ev]) ∧ KdA fb hb xb lim ⟨#[103, 101, 116]⟩ ⟨#[47, 100]⟩ 13 w0 w ev w' := by
  obtain ⟨E, hR, he⟩ := h
  obtain ⟨D, f, hz⟩ := hR.st
  refine (fGet_err (get_isDir hz (path := [47, 100]) (l := [[100]]) (by simp) (by decide) (q := 2) (by rfl) (by rfl))).mono ?_
  rintro e w' ⟨ev, rfl, hT⟩
  exact ⟨ev, rfl, KdS.told hR he hz hT⟩
theorem kd_list (h : KdS fb hb xb lim w0 w) : Calls Tryz.prog 22 #[ptr fb, .string ⟨#[47, 102]⟩] w fun e w' => ∃ ev, e = .returned (.tuple #[.slice none 0 0, ev]) ∧ KdA fb hb xb lim ⟨#[108, 105, 115, 116]⟩ ⟨#[47, 102]⟩ 14 w0 w ev w' := by
  obtain ⟨E, hR, he⟩ := h
  obtain ⟨D, f, hz⟩ := hR.st
  refine (fList_err (list_fail hz (path := [47, 102]) (l := [[102]]) (by simp) (by decide) (q := 3) (by rfl) (by decide))).mono ?_
  rintro e w' ⟨ev, rfl, hT⟩
  exact ⟨ev, rfl, KdS.told hR he hz hT⟩
theorem kd_getx (h : KdS fb hb xb lim w0 w) : Calls Tryz.prog 17 #[ptr fb, .string ⟨#[47, 102, 47, 120]⟩] w fun e w' => ∃ ev, e = .returned (.tuple #[.slice none 0 0, ev]) ∧ KdA fb hb xb lim ⟨#[103, 101, 116]⟩ ⟨#[47, 102, 47, 120]⟩ 14 w0 w ev w' := by
  obtain ⟨E, hR, he⟩ := h
  obtain ⟨D, f, hz⟩ := hR.st
  refine (fGet_err (get_no hz (path := [47, 102, 47, 120]) (l := [[102], [120]]) (by simp) (by decide) (m := 14) (by rfl) (by rfl))).mono ?_
  rintro e w' ⟨ev, rfl, hT⟩
  exact ⟨ev, rfl, KdS.told hR he hz hT⟩
theorem kd_hold (h : KdS fb hb xb lim w0 w) : Calls Tryz.prog 23 #[ptr fb, .string ⟨#[47, 100]⟩] w fun e w' => ∃ ev, e = .returned (.tuple #[.int .i64 0, ev]) ∧ KdA fb hb xb lim ⟨#[104, 111, 108, 100]⟩ ⟨#[47, 100]⟩ 13 w0 w ev w' := by
  obtain ⟨E, hR, he⟩ := h
  obtain ⟨D, f, hz⟩ := hR.st
  refine (fHold_err (hold_dir hz (path := [47, 100]) (l := [[100]]) (by simp) (by decide) (q := 2) (by rfl) (by rfl))).mono ?_
  rintro e w' ⟨ev, rfl, hT⟩
  exact ⟨ev, rfl, KdS.told hR he hz hT⟩
theorem kd_stat (h : KdS fb hb xb lim w0 w) : Calls Tryz.prog 24 #[ptr fb, .string ⟨#[47, 100, 47, 120]⟩] w fun e w' => ∃ ev, e = .returned (.tuple #[inV false 0 0, ev]) ∧ KdA fb hb xb lim ⟨#[115, 116, 97, 116]⟩ ⟨#[47, 100, 47, 120]⟩ 11 w0 w ev w' := by
  obtain ⟨E, hR, he⟩ := h
  obtain ⟨D, f, hz⟩ := hR.st
  refine (fStat_err hz (path := [47, 100, 47, 120]) (l := [[100], [120]]) (by simp) (by decide) (m := 11) (by rfl) (by rfl)).mono ?_
  rintro e w' ⟨ev, rfl, hT⟩
  exact ⟨ev, rfl, KdS.told hR he hz hT⟩
theorem kd_putd (h : KdS fb hb xb lim w0 w) : Calls Tryz.prog 15 #[ptr fb, .string ⟨#[47, 100]⟩, .slice none 0 0] w fun e w' => ∃ ev, e = .returned ev ∧ KdA fb hb xb lim ⟨#[112, 117, 116]⟩ ⟨#[47, 100]⟩ 13 w0 w ev w' := by
  obtain ⟨E, hR, he⟩ := h
  obtain ⟨D, f, hz⟩ := hR.st
  refine (fPut_err (put_isDir hz (path := [47, 100]) (l := []) (s := [100]) (by simp) (by decide) (zs := []) ⟨none, 0, rfl⟩ (by simp) false (p := 1) (by rfl) (r := ⟨[100], 2⟩) (by rfl) (by rfl))).mono ?_
  rintro e w' ⟨ev, rfl, hT⟩
  exact ⟨ev, rfl, KdS.told hR he hz hT⟩
theorem kd_make (h : KdS fb hb xb lim w0 w) : Calls Tryz.prog 25 #[ptr fb, .string ⟨#[47, 102, 47, 120]⟩] w fun e w' => ∃ ev, e = .returned ev ∧ KdA fb hb xb lim ⟨#[109, 97, 107, 101]⟩ ⟨#[47, 102, 47, 120]⟩ 14 w0 w ev w' := by
  obtain ⟨E, hR, he⟩ := h
  obtain ⟨D, f, hz⟩ := hR.st
  refine (fMake_err (create_noDir hz (path := [47, 102, 47, 120]) (l := [[102]]) (s := [120]) (kind := 1) (by simp) (by decide) (m := 14) (by rfl) (by rfl))).mono ?_
  rintro e w' ⟨ev, rfl, hT⟩
  exact ⟨ev, rfl, KdS.told hR he hz hT⟩
theorem kd_mkdirf (h : KdS fb hb xb lim w0 w) : Calls Tryz.prog 21 #[ptr fb, .string ⟨#[47, 102]⟩] w fun e w' => ∃ ev, e = .returned ev ∧ KdA fb hb xb lim ⟨#[109, 107, 100, 105, 114]⟩ ⟨#[47, 102]⟩ 12 w0 w ev w' := by
  obtain ⟨E, hR, he⟩ := h
  obtain ⟨D, f, hz⟩ := hR.st
  refine (fMkdir_err (create_old hz (path := [47, 102]) (l := []) (s := [102]) (kind := 2) (by simp) (by decide) (p := 1) (by rfl) (r := ⟨[102], 3⟩) (by rfl))).mono ?_
  rintro e w' ⟨ev, rfl, hT⟩
  exact ⟨ev, rfl, KdS.told hR he hz hT⟩
theorem kd_renfd (h : KdS fb hb xb lim w0 w) : Calls Tryz.prog 16 #[ptr fb, .string ⟨#[47, 102]⟩, .string ⟨#[47, 100]⟩] w fun e w' => ∃ ev, e = .returned ev ∧ KdA fb hb xb lim ⟨#[114, 101, 110, 97, 109, 101]⟩ ⟨#[47, 102]⟩ 13 w0 w ev w' := by
  obtain ⟨E, hR, he⟩ := h
  obtain ⟨D, f, hz⟩ := hR.st
  refine (fRename_err (path := [47, 102]) (b := [47, 100]) (rename_clash hz (kdClash1 hR.tn) (z := 13) (by rfl) (fun wx db db2 va va2 vn vc vn2 vc2 => replace_diry rfl rfl va va2 vn vc vn2 vc2 db db2 _ _))).mono ?_
  rintro e w' ⟨ev, rfl, hT⟩
  exact ⟨ev, rfl, KdS.told hR he hz hT⟩
theorem kd_rendf (h : KdS fb hb xb lim w0 w) : Calls Tryz.prog 16 #[ptr fb, .string ⟨#[47, 100]⟩, .string ⟨#[47, 102]⟩] w fun e w' => ∃ ev, e = .returned ev ∧ KdA fb hb xb lim ⟨#[114, 101, 110, 97, 109, 101]⟩ ⟨#[47, 100]⟩ 12 w0 w ev w' := by
  obtain ⟨E, hR, he⟩ := h
  obtain ⟨D, f, hz⟩ := hR.st
  refine (fRename_err (path := [47, 100]) (b := [47, 102]) (rename_clash hz (kdClash2 hR.tn) (z := 12) (by rfl) (fun wx db db2 va va2 vn vc vn2 vc2 => replace_dirx rfl va va2 vn vc vn2 vc2 db db2 _ _))).mono ?_
  rintro e w' ⟨ev, rfl, hT⟩
  exact ⟨ev, rfl, KdS.told hR he hz hT⟩
theorem kd_remove (h : KdS fb hb xb lim w0 w) : Calls Tryz.prog 26 #[ptr fb, .string ⟨#[47]⟩] w fun e w' => ∃ ev, e = .returned ev ∧ KdA fb hb xb lim ⟨#[114, 101, 109, 111, 118, 101]⟩ ⟨#[47]⟩ 1 w0 w ev w' := by
  obtain ⟨E, hR, he⟩ := h
  obtain ⟨D, f, hz⟩ := hR.st
  refine (fRemove_err (path := [47]) (remove_root hz (by simp) (by decide))).mono ?_
  rintro e w' ⟨ev, rfl, hT⟩
  exact ⟨ev, rfl, KdS.told hR he hz hT⟩
theorem kd_renroot (h : KdS fb hb xb lim w0 w) : Calls Tryz.prog 16 #[ptr fb, .string ⟨#[47]⟩, .string ⟨#[47, 113]⟩] w fun e w' => ∃ ev, e = .returned ev ∧ KdA fb hb xb lim ⟨#[114, 101, 110, 97, 109, 101]⟩ ⟨#[47]⟩ 1 w0 w ev w' := by
  obtain ⟨E, hR, he⟩ := h
  obtain ⟨D, f, hz⟩ := hR.st
  refine (fRename_err (path := [47]) (b := [47, 113]) (rename_root hz (lb := [[113]]) (by simp) (by simp) (by decide) (by decide))).mono ?_
  rintro e w' ⟨ev, rfl, hT⟩
  exact ⟨ev, rfl, KdS.told hR he hz hT⟩
theorem kd_makeroot (h : KdS fb hb xb lim w0 w) : Calls Tryz.prog 25 #[ptr fb, .string ⟨#[47]⟩] w fun e w' => ∃ ev, e = .returned ev ∧ KdA fb hb xb lim ⟨#[109, 97, 107, 101]⟩ ⟨#[47]⟩ 12 w0 w ev w' := by
  obtain ⟨E, hR, he⟩ := h
  obtain ⟨D, f, hz⟩ := hR.st
  have k : Calls Tryz.prog 39 #[ptr fb, .string (mkB [47]), .int .i64 ((1 : Nat) : Int)] w fun e w' => ∃ ev, e = .returned ev ∧ Refused fb 0 hb E kdK D kdT f lim 12 w ev w' :=
    (create_root (by simp) (by decide)).mono fun e w' ⟨h1, hB⟩ => ⟨_, h1, refused_none hz hB 12⟩
  refine (fMake_err (path := [47]) k).mono ?_
  rintro e w' ⟨ev, rfl, hT⟩
  exact ⟨ev, rfl, KdS.told hR he hz hT⟩
theorem kd_putroot (h : KdS fb hb xb lim w0 w) : Calls Tryz.prog 15 #[ptr fb, .string ⟨#[47]⟩, .slice none 0 0] w fun e w' => ∃ ev, e = .returned ev ∧ KdA fb hb xb lim ⟨#[112, 117, 116]⟩ ⟨#[47]⟩ 13 w0 w ev w' := by
  obtain ⟨E, hR, he⟩ := h
  obtain ⟨D, f, hz⟩ := hR.st
  refine (fPut_err (path := [47]) (put_root hz (by simp) (by decide))).mono ?_
  rintro e w' ⟨ev, rfl, hT⟩
  exact ⟨ev, rfl, KdS.told hR he hz hT⟩
end
end Go.Proofs.YtjionogjeafffaaGreatDoor
/- FsKinds: a directory and a file made. -/
namespace Go.Proofs.YtjionogjeafffaaGreatDoor
open Go.RowKit Go.Extern.Stop Go.Stop Go.Extern Go.Maps Go.Sort Go.Shelf
set_option maxRecDepth 1000000

/-- The statement's own cell; what does not turn. -/
structure KdX (fb xb : Nat) (E : TE) (w : World) : Prop where
  x1 : w.cell? ⟨xb, 1, none⟩ = some (ptr fb)
  xn : xb ≠ E.d ∧ xb ≠ E.g ∧ xb ≠ E.mb ∧ xb ≠ fb
  tn : E.tn = 12
  gt : GT E.w0
theorem KdX.below {fb xb : Nat} {E : TE} {w w' : World} (h : KdX fb xb E w) (hB : Below w.heap.size w w') : KdX fb xb E w' := ⟨(hB.cell (p := ⟨xb, 1, none⟩) (lt_of_cell (a := ⟨xb, 1, none⟩) h.x1)).trans h.x1, h.xn, h.tn, h.gt⟩
theorem KdX.turn {fb xb : Nat} {E : TE} {w w' : World} (h : KdX fb xb E w) (hT : E.Turns fb w w') : KdX fb xb E.rest w' :=
  have hA : Apart [E.d, E.g, E.mb, fb] w w' := hT
  ⟨(hA.cell (p := ⟨xb, 1, none⟩) (lt_of_cell (a := ⟨xb, 1, none⟩) h.x1) (by have := h.xn; simp; omega)).trans h.x1, h.xn, h.tn, h.gt⟩
set_option maxHeartbeats 8000000 in
theorem kd2 (w : World) (fb hb xb : Nat) (E : TE) (lim : Nat) (za zb : Int) (nl : Nat) (xs : List Int) (hand : bits .and .i64 zb 2047 = (nl : Int)) (hlim : Hid (lim ≤ 50000)) (kT : Hid (∀ wx : World, Calls Tryz.prog 14 #[.int .i64 za, .int .i64 (nl : Int)] wx fun e w' => e = .returned (.string (ofBytes xs)) ∧ Below wx.heap.size wx w')) (hxr : Hid (∀ z ∈ xs, 0 ≤ z ∧ z ≤ 255)) (hxl : Hid (xs.length ≤ 3000)) (hX : Hid (KdX fb xb E w)) (hz : Hid (Fsz fb 0 hb E rootK (fun _ => []) (fun _ => []) 111 lim w))
    (x2 x3 x4 x6 x7 x8 x9 x10 x11 x12 x13 x14 x15 x16 x17 x18 x19 x20 x21 x22 x23 x24 x25 x26 x27 x28 x29 x30 x31 x32 x33 x34 x35 x36 x37 x38 x39 x40 x41 x42 x43 x44 x45 x46 x47 x48 x49 x50 x51 x52 x53 x54 x55 x56 x57 x58 x59 x60 x61 x62 x63 x64 x65 x66 x67 x68 x69 x70 x71 x72 x73 x74 x75 x76 x77 x78 x79 x80 x81 x82 x83 x84 x85 x86 x87 x88 x89 x90 x91 x92 x93 x94 x95 x96 x97 x98 x99 x100 x101 x102 x103 x104 x105 x106 x107 x108 x109 x110 x111 x112 x113 x114 x115 x116 x117 x118 x119 x120 x121 x122 x123 x124 x125 x126 x127 x128 x129 x130 x131 x132 x133 x134 x135 x136 x137 x138 x139 x140 x141 x142 x143 x144 x145 x146 x147 x148 x149 x150 x151 x152 x153 x154 x155 x156 x157 x158 x159 x160 x161 x162 x163 x164 x165 x166 x167 x168 x169 x170 x171 x172 x173 x174 x175 x176 x177 x178 x179 x180 x181 x182 x183 x184 x185 x186 x187 : Value) (KK : Act → World → Prop) (Q : Exit → Act → World → Prop)
    (hKK : Hid (∀ (v18 v19 v20 v21 v22 v23 v24 v25 v26 v27 v28 v29 v30 v31 v32 v33 v34 v35 v36 v37 v38 v39 : Value)  (w' : World), KdS fb hb xb (lim + 1000 + 1000) E.w0 w' → KK ⟨#[.int .i64 za, .int .i64 zb, x2, x3, x4, ptr xb, x6, x7, x8, x9, x10, x11, x12, x13, x14, x15, x16, x17, v18, v19, v20, v21, v22, v23, v24, v25, v26, v27, v28, v29, v30, v31, v32, v33, v34, v35, v36, v37, v38, v39, .bool false, x41, x42, x43, x44, x45, x46, x47, x48, x49, x50, x51, x52, x53, x54, x55, x56, x57, x58, x59, x60, x61, x62, x63, x64, x65, x66, x67, x68, x69, x70, x71, x72, x73, x74, x75, x76, x77, x78, x79, x80, x81, x82, x83, x84, x85, x86, x87, x88, x89, x90, x91, x92, x93, x94, x95, x96, x97, x98, x99, x100, x101, x102, x103, x104, x105, x106, x107, x108, x109, x110, x111, x112, x113, x114, x115, x116, x117, x118, x119, x120, x121, x122, x123, x124, x125, x126, x127, x128, x129, x130, x131, x132, x133, x134, x135, x136, x137, x138, x139, x140, x141, x142, x143, x144, x145, x146, x147, x148, x149, x150, x151, x152, x153, x154, x155, x156, x157, x158, x159, x160, x161, x162, x163, x164, x165, x166, x167, x168, x169, x170, x171, x172, x173, x174, x175, x176, x177, x178, x179, x180, x181, x182, x183, x184, x185, x186, x187], []⟩ w'))
    (hQp : Hid (∀ x a a' w, Q (.panic x) a w → a.defers = a'.defers → Q (.panic x) a' w)) :
    Code.wp Tryz.prog (((Tryz.f5.body.bind (regionAt 2)).getD .skip)) (Exit.then KK Q) ⟨#[.int .i64 za, .int .i64 zb, x2, x3, x4, ptr xb, x6, x7, x8, x9, x10, x11, x12, x13, x14, x15, x16, x17, x18, x19, x20, x21, x22, x23, x24, x25, x26, x27, x28, x29, x30, x31, x32, x33, x34, x35, x36, x37, x38, x39, x40, x41, x42, x43, x44, x45, x46, x47, x48, x49, x50, x51, x52, x53, x54, x55, x56, x57, x58, x59, x60, x61, x62, x63, x64, x65, x66, x67, x68, x69, x70, x71, x72, x73, x74, x75, x76, x77, x78, x79, x80, x81, x82, x83, x84, x85, x86, x87, x88, x89, x90, x91, x92, x93, x94, x95, x96, x97, x98, x99, x100, x101, x102, x103, x104, x105, x106, x107, x108, x109, x110, x111, x112, x113, x114, x115, x116, x117, x118, x119, x120, x121, x122, x123, x124, x125, x126, x127, x128, x129, x130, x131, x132, x133, x134, x135, x136, x137, x138, x139, x140, x141, x142, x143, x144, x145, x146, x147, x148, x149, x150, x151, x152, x153, x154, x155, x156, x157, x158, x159, x160, x161, x162, x163, x164, x165, x166, x167, x168, x169, x170, x171, x172, x173, x174, x175, x176, x177, x178, x179, x180, x181, x182, x183, x184, x185, x186, x187], []⟩ w := by
  have hu := hQp
  clear hu
  conv => arg 2; whnf
  try dsimp only
  have hXd := hidden (hX.out.below (below_drew1 w))
  have hS0 : Hid (XSz xb fb w.drew) := hidden hXd.out.x1
  have kM := hidden (kd_mkdir (hz.out.below (below_drew1 w)) hXd.out.tn (by have := hlim.out; omega))
  clear hX hz
  refine wp_region_held_drew (S := XSz xb fb) (by kernel_rfl) hS0.out ?_
  intro _
  generalize w.drew = wd at *
  refine wpAnyH_ready (rs := [0]) (by kernel_rfl) (by simp) ?_
  refine AllReadyH.cons rfl (fun K hK => ?_) AllReadyH.nil
  go_simp
  refine hK.out _ _ hS0.out (fun _ => ?_)
  clear hK K
  refine wpAnyH_ready (rs := [1]) (by kernel_rfl) (by simp) ?_
  refine AllReadyH.cons rfl (fun K hK => ?_) AllReadyH.nil
  go_simp
  refine hK.out _ _ hS0.out (fun _ => ?_)
  clear hK K
  refine wpAnyH_ready (rs := [2]) (by kernel_rfl) (by simp) ?_
  refine AllReadyH.cons rfl (fun K hK => ?_) AllReadyH.nil
  go_simp
  refine hK.out _ _ hS0.out (fun _ => ?_)
  clear hK K
  refine wpAnyH_ready (rs := [3]) (by kernel_rfl) (by simp) ?_
  refine AllReadyH.cons rfl (fun K hK => ?_) AllReadyH.nil
  go_simp
  refine hK.out _ _ hS0.out (fun _ => ?_)
  clear hK K
  refine wpAnyH_ready (rs := [4]) (by kernel_rfl) (by simp) ?_
  refine AllReadyH.cons rfl (fun K hK => ?_) AllReadyH.nil
  go_simp
  refine hK.out _ _ hS0.out (fun _ => ?_)
  clear hK K
  refine wpAnyH_ready (rs := [5]) (by kernel_rfl) (by simp) ?_
  refine AllReadyH.cons rfl (fun K hK => ?_) AllReadyH.nil
  go_simp
  refine hK.out _ _ hS0.out (fun _ => ?_)
  clear hK K
  refine wpAnyH_ready (rs := [6]) (by kernel_rfl) (by simp) ?_
  refine AllReadyH.cons rfl (fun K hK => ?_) AllReadyH.nil
  have c := (hS0.out).out; have lc := lt_of_cell (a := ⟨xb, 1, none⟩) c
  go_simp
  refine hK.out _ _ hS0.out (fun _ => ?_)
  clear hK K
  refine wpAnyH_ready (rs := [7]) (by kernel_rfl) (by simp) ?_
  refine AllReadyH.cons rfl (fun K hK => ?_) AllReadyH.nil
  go_simp
  go_wp2_with (go_at_call 21; refine (kM.out).mono ?_; rintro ev w1 ⟨rfl, ⟨D1, hz1⟩, hT1⟩)
  refine hK.out _ _ ((hXd.out.turn hT1).x1) (fun hSn1 => ?_)
  have hX1 := hidden (hXd.out.turn hT1)
  replace hz1 := hidden hz1
  clear hT1 kM hXd
  clear hK K
  refine wpAnyH_ready (rs := [8]) (by kernel_rfl) (by simp) ?_
  refine AllReadyH.cons rfl (fun K hK => ?_) AllReadyH.nil
  go_simp
  refine hK.out _ _ hSn1 (fun _ => ?_)
  clear hK K
  refine wpAnyH_ready (rs := [9]) (by kernel_rfl) (by simp) ?_
  refine AllReadyH.cons rfl (fun K hK => ?_) AllReadyH.nil
  go_simp
  refine hK.out _ _ hSn1 (fun _ => ?_)
  clear hK K
  refine wpAnyH_ready (rs := [10]) (by kernel_rfl) (by simp) ?_
  refine AllReadyH.cons rfl (fun K hK => ?_) AllReadyH.nil
  go_simp
  refine hK.out _ _ hSn1 (fun _ => ?_)
  clear hK K
  refine wpAnyH_take (i := 11) (v := ?_) rfl (by kernel_rfl) (by kernel_rfl) (by kernel_rfl) (fun _ _ _ h => hQp.out _ _ _ _ h rfl) (Or.inl ⟨by rfl, ?_⟩) hSn1 ?_
  rotate_left
  · intro w hw; clear hw; go_simp; try (with_reducible rfl)
  refine wpAnyH_take (i := 12) (v := ?_) rfl (by kernel_rfl) (by kernel_rfl) (by kernel_rfl) (fun _ _ _ h => hQp.out _ _ _ _ h rfl) (Or.inl ⟨by rfl, ?_⟩) hSn1 ?_
  rotate_left
  · intro w hw; clear hw; go_simp; try (with_reducible rfl)
  refine wpAnyH_take (i := 13) (v := ?_) rfl (by kernel_rfl) (by kernel_rfl) (by kernel_rfl) (fun _ _ _ h => hQp.out _ _ _ _ h rfl) (Or.inl ⟨by rfl, ?_⟩) hSn1 ?_
  rotate_left
  · intro w hw; clear hw; go_simp; try (with_reducible rfl)
  refine wpAnyH_take (i := 14) (v := ?_) rfl (by kernel_rfl) (by kernel_rfl) (by kernel_rfl) (fun _ _ _ h => hQp.out _ _ _ _ h rfl) (Or.inl ⟨by rfl, ?_⟩) hSn1 ?_
  rotate_left
  · intro w hw; have c := (hw).out; have lc := lt_of_cell (a := ⟨xb, 1, none⟩) c; clear hw; go_simp; try (with_reducible rfl)
  refine wpAnyH_take (i := 15) (v := ?_) rfl (by kernel_rfl) (by kernel_rfl) (by kernel_rfl) (fun _ _ _ h => hQp.out _ _ _ _ h rfl) (Or.inl ⟨by rfl, ?_⟩) hSn1 ?_
  rotate_left
  · intro w hw; clear hw; go_simp; try (with_reducible rfl)
  refine wpAnyH_ready (rs := [16]) (by kernel_rfl) (by simp) ?_
  refine AllReadyH.cons rfl (fun K hK => ?_) AllReadyH.nil
  go_simp
  refine hK.out _ _ hSn1 (fun _ => ?_)
  clear hK K
  refine wpAnyH_ready (rs := [17]) (by kernel_rfl) (by simp) ?_
  refine AllReadyH.cons rfl (fun K hK => ?_) AllReadyH.nil
  go_simp
  refine hK.out _ _ hSn1 (fun _ => ?_)
  clear hK K
  refine wpAnyH_ready (rs := [18]) (by kernel_rfl) (by simp) ?_
  refine AllReadyH.cons rfl (fun K hK => ?_) AllReadyH.nil
  go_simp
  go_wp2_with (go_at_call 14; refine (kT.out _).mono ?_; rintro ev wT ⟨rfl, hBT⟩)
  refine hK.out _ _ (XSz.below hSn1 hBT) (fun hSn2 => ?_)
  have hXT := hidden (hX1.out.below hBT)
  have hzT := hidden (hz1.out.below hBT)
  have hmT : E.rest.mb < wT.heap.size := hzT.out.s.to.lts.2.2.2.2.1
  clear hBT
  clear hK K
  refine wpAnyH_ready (rs := [19]) (by kernel_rfl) (by simp) ?_
  refine AllReadyH.cons rfl (fun K hK => ?_) AllReadyH.nil
  obtain ⟨cap, w5, hcv, hbc, hB5⟩ := bytes_of E.rest.mb wT xs hxr.out (by have := hxl.out; omega) hmT
  go_simp
  refine hK.out _ _ (XSz.below hSn2 hB5) (fun hSn3 => ?_)
  have hX5 := hidden (hXT.out.below hB5)
  have hz5 := hidden (hzT.out.below hB5)
  replace hbc := hidden hbc
  clear hcv hB5
  clear hK K
  refine wpAnyH_ready (rs := [20]) (by kernel_rfl) (by simp) ?_
  refine AllReadyH.cons rfl (fun K hK => ?_) AllReadyH.nil
  have kP := hidden (kd_put hz5.out hX5.out.tn hbc.out hxl.out (by have := hlim.out; omega))
  go_simp
  go_wp2_with (go_at_call 15; refine (kP.out).mono ?_; rintro ev w6 ⟨rfl, hz6, hT6⟩)
  refine hK.out _ _ ((hX5.out.turn hT6).x1) (fun hSn4 => ?_)
  have hX6 := hX5.out.turn hT6
  have hR6 := hidden (show KdS fb hb xb (lim + 1000 + 1000) E.w0 w6 from ⟨E.rest.rest, ⟨hz6, hX6.x1, hX6.xn, hX6.tn, hX6.gt⟩, rfl⟩)
  clear hT6 hz6 kP hX6
  clear hK K
  refine wpAnyH_ready (rs := [21]) (by kernel_rfl) (by simp) ?_
  refine AllReadyH.cons rfl (fun K hK => ?_) AllReadyH.nil
  go_simp
  refine hK.out _ _ hSn4 (fun _ => ?_)
  clear hK K
  refine wpAnyH_ready (rs := [22]) (by kernel_rfl) (by simp) ?_
  refine AllReadyH.cons rfl (fun K hK => ?_) AllReadyH.nil
  go_simp
  refine hK.out _ _ hSn4 (fun _ => ?_)
  clear hK K
  refine wpAnyH_done (by kernel_rfl) ?_ _
  refine hKK.out _ _ _ _ _ _ _ _ _ _ _ _ _ _ _ _ _ _ _ _ _ _ w6 hR6.out
end Go.Proofs.YtjionogjeafffaaGreatDoor
