/- target: a file that is there; what is none. -/
import Derived.Test.YtpofmiecjkghgaaGreatDoorGWcp
namespace Go.Proofs.YtpofmiecjkghgaaGreatDoor
open Go.RowKit Go.Extern.Stop Go.Stop Go.Extern Go.Maps Go.Sort Go.Shelf
set_option maxRecDepth 100000
set_option maxHeartbeats 4000000
section
variable {fb rs hb : Nat} {E : TE} {w w' : World} {K : Nat -> Nat} {D : Nat -> List Int} {T : Nat -> List Rec} {f u lim : Nat}
theorem S8.fle (h : S8 E K D f u lim w) (ok : E.Ok) : f <= 2100 := by
  obtain ⟨mem, wr, M, N, q1, q2, q3, q4, q5, q6, q7, q8⟩ := h
  have := freeN_le (bitM mem M E.ma) E.k
  have := ok.k
  omega
theorem resize_ok (hF : FsAt fb E rs hb w) (h : S8 E K D f u lim w) (ok : E.Ok) (hkk : E.kk = E.k) {id : Nat} (h1 : 1 <= id) (h2 : id <= E.tn) (hk : K id ≠ 0) (size : Nat) (all : Bool) (hmay : mayB (f : Int) (rs : Int) (growb ((D id).length : Nat) (size : Int)) all = true) :
    Calls Tryz.prog 81 #[ptr fb, .int .i64 (id : Nat), .int .i64 (size : Nat), .bool all] w fun e w' => e = .returned .nilIface /\ Below w.heap.size w w' := by
  have hfl := h.fle ok
  have kSz := hidden (S8.size ok h h1 h2 hk)
  have kGr := hidden (fun (wx : World) => grow_calls ((D id).length : Nat) (size : Int) wx)
  have kMy := hidden (fun (wx : World) (hx : Below w.heap.size w wx) => fmay_calls (hF.below hx) (h.more hx) ok hkk (growb ((D id).length : Nat) (size : Int)) all (yes := true) (fun wy => by have := may_calls (f : Int) (rs : Int) (growb ((D id).length : Nat) (size : Int)) all (by omega) wy; rw [hmay] at this; exact this))
  have c2 := hF.c2
  have hlt := hF.lt
  clear hF h ok hmay
  generalize growb ((D id).length : Nat) (size : Int) = GS at *
  generalize (((D id).length : Nat) : Int) = LD at *
  go_enter Tryz.func81, Tryz.ntmps81
  go_wp2_with fail
  refine (kSz.out).mono ?_
  rintro ev w1 ⟨rfl, hB1⟩
  have kM1 := hidden (kMy.out _ hB1)
  replace hB1 := hidden hB1
  clear kSz kMy c2
  go_wp2_with fail
  refine (kGr.out _).mono ?_
  rintro ev wq ⟨rfl, hwq⟩
  subst wq
  go_wp2_with fail
  refine (kM1.out).mono ?_
  rintro ev w2 ⟨rfl, hB2⟩
  have hE := hidden (hB1.out.trans (hB2.mono hB1.out.size))
  clear hB2 kM1
  dsimp only [if_true]
  go_wp2
  go_ret
  exact ⟨rfl, hE.out⟩
end
theorem putD_all (d zs : List Int) : putD d zs 0 zs.length = zs := by
  apply List.ext_getElem?
  intro j
  unfold putD
  rw [List.getElem?_map]
  by_cases hj : j < zs.length
  · rw [List.getElem?_range hj]
    simp [hj, List.getD]
  · rw [List.getElem?_eq_none (l := List.range zs.length) (by rw [List.length_range]; omega), List.getElem?_eq_none (by omega)]
    rfl
theorem cell_ne {E : TE} {K : Nat -> Nat} {D : Nat -> List Int} {f u lim : Nat} {w : World} (h : S8 E K D f u lim w) {b j : Nat} {v : Value} (hc : w.cell? ⟨b, j, none⟩ = some v) : b ≠ E.mb := by
  rintro rfl
  rw [h.mapNo j] at hc
  cases hc
section
variable {fb rs hb : Nat} {E : TE} {w w' : World} {K : Nat -> Nat} {D : Nat -> List Int} {T : Nat -> List Rec} {f u lim : Nat}
theorem S8.cutTo (ok : E.Ok) (h : S8 E K D f u lim w) {id : Nat} (h1 : 1 <= id) (h2 : id <= E.tn) (hR : E.R id) (hW : E.W id) (hk : K id ≠ 0) {n g : Nat} (hn : n <= 4000) (hg : growb ((D id).length : Nat) (n : Int) = (g : Int)) (hgu : g <= u) :
    Calls Tryz.prog 65 #[ptr E.tb, .int .i64 id, .int .i64 n] w fun e w' => e = .returned .nilIface /\ (∃ f' u' d, S8 E K (upd D id d) f' u' lim w' /\ d.length = n /\ (f' : Int) + blk (n : Int) = (f : Int) + blk ((D id).length : Int) /\ u <= u' + g) /\ Apart [E.mb] w w' := by
  have hlen := h.len h1 h2
  have hfu : u <= f := by
    obtain ⟨mem, wr, M, N, q1, q2, q3, q4, q5, q6, q7, q8⟩ := h
    have := freeN_mono (bitM mem M E.ma) ok.kuk
    omega
  by_cases hS : n < (D id).length
  · have hge : blk (n : Int) <= blk ((D id).length : Int) := blk_upD (by omega) (by omega) (by omega)
    obtain ⟨m, hm⟩ : ∃ m : Nat, blk ((D id).length : Int) - blk (n : Int) = (m : Int) := ⟨(blk ((D id).length : Int) - blk (n : Int)).toNat, by omega⟩
    refine (S8.cutless ok h h1 h2 hR hW hk hS hm).mono ?_
    rintro e w' ⟨rfl, r1, r2⟩
    exact ⟨rfl, ⟨_, _, _, r1, by rw [List.length_take]; omega, by omega, by omega⟩, r2⟩
  · have hge : blk ((D id).length : Int) <= blk (n : Int) := blk_upD (by omega) (by omega) (by omega)
    have hn' : (g : Int) = blk (n : Int) - blk ((D id).length : Int) := by unfold growb at hg; omega
    refine (S8.cutmore ok h h1 h2 hR hW hk (by omega) hn hg hgu).mono ?_
    rintro e w' ⟨rfl, r1, r2⟩
    exact ⟨rfl, ⟨_, _, _, r1, by unfold grownL; rw [List.length_append, List.length_replicate]; omega, by omega, by omega⟩, r2⟩
theorem S8.write_no (ok : E.Ok) (h : S8 E K D f u lim w) {id : Nat} (h1 : 1 <= id) (h2 : id <= E.tn) (hk : K id ≠ 0) (a : Option Addr) (c : Nat) :
    Calls Tryz.prog 66 #[ptr E.tb, .int .i64 id, .int .i64 0, .slice a 0 c] w fun e w' => e = .returned .nilIface /\ S8 E K D f u lim w' /\ Below w.heap.size w w' := by
  have htn := ok.tn
  refine iWrite_calls (id := (id : Int)) ⟨by omega, by omega⟩ (Q := fun w' => S8 E K D f u lim w' /\ Below w.heap.size w w') (fun w1 w2 q hB => ⟨q.1.more hB, q.2.trans (hB.mono q.2.size)⟩) (fun w1 q => q.1.ground) ?_ ⟨a, 0, c, rfl⟩
  have h' := h
  obtain ⟨mem, wr, M, N, q1, q2, q3, q4, q5, q6⟩ := h'
  exact (write_none (at_ := 0) ⟨by omega, by omega⟩ (q1.load ok q2 id h1 h2 (by rw [q5]; exact hk))).mono fun e w' ⟨r1, r2⟩ => ⟨r1, h.more r2, r2⟩
theorem S8.over_all (ok : E.Ok) (h : S8 E K D f u lim w) {id : Nat} (h1 : 1 <= id) (h2 : id <= E.tn) (hR : E.R id) (hW : E.W id) (hk : K id ≠ 0) {bv : Value} {zs : List Int} (hbv : BytesC E.mb w bv zs) (hz : zs.length <= 4000) (hd : (D id).length = zs.length) :
    Calls Tryz.prog 66 #[ptr E.tb, .int .i64 id, .int .i64 0, bv] w fun e w' => e = .returned .nilIface /\ S8 E K (upd D id zs) f u lim w' /\ Apart [E.mb] w w' := by
  by_cases h0 : zs = []
  · subst h0
    obtain ⟨a, c, rfl, -⟩ := hbv.at
    have hd0 : D id = [] := List.length_eq_zero_iff.1 hd
    refine (S8.write_no ok h h1 h2 hk a c).mono ?_
    rintro e w' ⟨rfl, r1, r2⟩
    have e2 : upd D id [] = D := by rw [<- hd0]; exact upd_self D id
    rw [e2]
    exact ⟨rfl, r1, Apart.of_below r2⟩
  · have hp : 0 < zs.length := List.length_pos_iff.2 h0
    have := S8.write ok h (at_ := 0) (n := 0) (S2 := zs.length) h1 h2 hR hW hk hbv hp (by omega) (by rw [hd]; omega) (by rw [hd]; unfold growb; omega) (Nat.zero_le _)
    refine this.mono ?_
    rintro e w' ⟨rfl, r1, r2⟩
    rw [putD_all] at r1
    exact ⟨rfl, r1, r2⟩
end
structure PBox (b0 b1 b2 b3 b4 fb : Nat) (up bv : Value) (s : List UInt8) (all : Bool) (w : World) : Prop where
  c0 : w.cell? ⟨b0, 0, none⟩ = some (ptr fb)
  c1 : w.cell? ⟨b1, 0, none⟩ = some up
  c2 : w.cell? ⟨b2, 0, none⟩ = some (.string (mkB s))
  c3 : w.cell? ⟨b3, 0, none⟩ = some bv
  c4 : w.cell? ⟨b4, 0, none⟩ = some (.bool all)
theorem PBox.keep {b0 b1 b2 b3 b4 fb m : Nat} {up bv : Value} {s : List UInt8} {all : Bool} {w w' : World} (h : PBox b0 b1 b2 b3 b4 fb up bv s all w) (ha : Apart [m] w w') (hm : ∀ b v, w.cell? ⟨b, 0, none⟩ = some v -> b ≠ m) : PBox b0 b1 b2 b3 b4 fb up bv s all w' :=
  have k : ∀ b v, w.cell? ⟨b, 0, none⟩ = some v -> w'.cell? ⟨b, 0, none⟩ = some v := fun b v hc => (ha.cell (p := ⟨b, 0, none⟩) (lt_of_cell hc) (by simpa using hm b v hc)).trans hc
  ⟨k _ _ h.c0, k _ _ h.c1, k _ _ h.c2, k _ _ h.c3, k _ _ h.c4⟩
section
variable {fb rs hb : Nat} {E : TE} {w w' : World} {K : Nat -> Nat} {D : Nat -> List Int} {T : Nat -> List Rec} {f u lim : Nat}
theorem fput1_ok {b0 b1 b2 b3 b4 : Nat} {up bv : Value} {s : List UInt8} {all : Bool} {zs : List Int} {id g : Nat} {Rel : Nat -> Nat -> Prop} (hB : PBox b0 b1 b2 b3 b4 fb up bv s all w) (hF : FsAt fb E rs hb w) (hfm : fb ≠ E.mb) (hS0 : S8 E K D f u lim w) (hbv : BytesC E.mb w bv zs) (hz : zs.length <= 4000) (ok : E.Ok) (h1 : 1 <= id) (h2 : id <= E.tn) (hR : E.R id) (hW : E.W id) {K1 : Nat -> Nat} {D1 : Nat -> List Int} (hk : K1 id ≠ 0) (hg : growb ((D1 id).length : Nat) (zs.length : Int) = (g : Int)) (hgu : ∀ f1 u1, Rel f1 u1 -> g <= u1)
    (kT : Calls Tryz.prog 64 #[ptr fb, up, .string (mkB s), .int .i64 (zs.length : Nat), .bool all] w fun e w' => e = .returned (.tuple #[.int .i64 (id : Nat), .nilIface]) /\ (∃ f1 u1, S8 E K1 D1 f1 u1 lim w' /\ Rel f1 u1) /\ Apart [E.mb] w w') :
    Calls Tryz.prog 63 #[ptr b0, ptr b1, ptr b2, ptr b3, ptr b4] w fun e w' => e = .returned .nilIface /\ (∃ f1 u1 f2 u2, Rel f1 u1 /\ S8 E K1 (upd D1 id zs) f2 u2 lim w' /\ (f2 : Int) + blk (zs.length : Int) = (f1 : Int) + blk ((D1 id).length : Int) /\ u1 <= u2 + g) /\ Apart [E.mb] w w' := by
  have hm0 : ∀ b v, w.cell? ⟨b, 0, none⟩ = some v -> b ≠ E.mb := fun b v hc => cell_ne hS0 hc
  have c0 := hB.c0
  have c1 := hB.c1
  have c2 := hB.c2
  have c3 := hB.c3
  have c4 := hB.c4
  have hbk := hidden (fun (wx : World) (hx : Apart [E.mb] w wx) => hB.keep hx hm0)
  have hfk := hidden (fun (wx : World) (hx : Apart [E.mb] w wx) => hF.keep hx (by simpa using hfm))
  have hvk := hidden (fun (wx : World) (hx : Apart [E.mb] w wx) => hbv.keep hx)
  obtain ⟨ba, bc, rfl, -⟩ := hbv.at
  have kCu := hidden (fun (wx : World) (f1 u1 : Nat) (hS : S8 E K1 D1 f1 u1 lim wx) (hr : Rel f1 u1) => S8.cutTo ok hS h1 h2 hR hW hk hz hg (hgu f1 u1 hr))
  have kWr := hidden (fun (wx : World) (f2 u2 : Nat) (d : List Int) (hS : S8 E K1 (upd D1 id d) f2 u2 lim wx) (hd : d.length = zs.length) (hb : BytesC E.mb wx (.slice ba zs.length bc) zs) => S8.over_all ok hS h1 h2 hR hW hk hb hz (by rw [upd_same]; exact hd))
  replace kT := hidden kT
  clear hB hF hbv hS0 ok hg hgu
  generalize hZL : zs.length = ZL at *
  replace hZL := hidden hZL
  go_enter Tryz.func63, Tryz.ntmps63
  go_wp2_with fail
  refine (kT.out).mono ?_
  rintro ev w1 ⟨rfl, ⟨f1, u1, hS1, hr1⟩, hA1⟩
  have hb1 := hbk.out _ hA1
  have d0 := hb1.c0
  have d3 := hb1.c3
  have t2 := (hfk.out _ hA1).c2
  have hlt1 := (hfk.out _ hA1).lt
  have kC1 := hidden (fun (wx : World) (hx : Below w1.heap.size w1 wx) => kCu.out wx f1 u1 (hS1.more hx) hr1)
  have hE1 := hidden (And.intro hr1 hA1)
  clear hS1 hA1 kT kCu hb1 c0 c1 c2 c3 c4 hr1
  go_upto_region 4 with fail
  go_region_with (go_at_call 65; refine (kC1.out _ (below_drew1 w1)).mono ?_; rintro ev w2 ⟨rfl, ⟨f2, u2, dd, hS2, hdl, hf2, hu2⟩, hA2⟩)
  all_goals
    have hA02 : Apart [E.mb] w w2 := (hE1.out.2.trans (Apart.of_below (below_drew1 w1))).trans hA2
    have hb2 := hbk.out _ hA02
    have e0 := hb2.c0
    have e3 := hb2.c3
    have t22 := (hfk.out _ hA02).c2
    have hlt2 := (hfk.out _ hA02).lt
    have kW2 := hidden (fun (wx : World) (hx : Below w2.heap.size w2 wx) => kWr.out wx f2 u2 dd (hS2.more hx) hdl (hvk.out wx (hA02.trans (Apart.of_below hx))))
    have hE2 := hidden (And.intro hf2 (And.intro hu2 hA02))
    clear hS2 hdl hf2 hu2 hA2 hA02 kC1 kWr hb2 d0 d3 t2
    go_upto_region 7 with fail
    go_region_with (go_at_call 66; refine (kW2.out _ (below_drew1 w2)).mono ?_; rintro ev w3 ⟨rfl, hS3, hA3⟩)
    all_goals
      rw [upd_upd] at hS3
      have hE := hidden (show (∃ f1 u1 f2 u2, Rel f1 u1 /\ S8 E K1 (upd D1 id zs) f2 u2 lim w3 /\ (f2 : Int) + blk (ZL : Int) = (f1 : Int) + blk ((D1 id).length : Int) /\ u1 <= u2 + g) /\ Apart [E.mb] w w3 from ⟨⟨f1, u1, f2, u2, hE1.out.1, hS3, hE2.out.1, hE2.out.2.1⟩, (hE2.out.2.2.trans (Apart.of_below (below_drew1 w2))).trans hA3⟩)
      clear hS3 hA3
      go_wp2
      go_ret
      exact ⟨rfl, hE.out⟩
end
end Go.Proofs.YtpofmiecjkghgaaGreatDoor
