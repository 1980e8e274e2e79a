/- What 32 bytes are read as. -/
import Derived.Test.YtpofmiecjkghgaaGreatDoorGDap
import Derived.Laws.ResultCell
import Derived.Deep.CutBlock
import Derived.Deep.RegionHeld
namespace Go.Proofs.YtpofmiecjkghgaaGreatDoor
open Go.RowKit Go.Extern.Stop Go.Stop Go.Extern
set_option maxRecDepth 100000
set_option maxHeartbeats 32000000
structure RrAt (w : World) (b : Nat) (s : ByteArray) (n : Int) : Prop where
  c0 : w.cell? ⟨b, 0, none⟩ = some (.string s)
  c1 : w.cell? ⟨b, 1, none⟩ = some (.int .i64 n)
  fz : ∀ j, w.frozen? ⟨b, j, none⟩ = false
section
variable {w w' : World} {b : Nat} {s s' : ByteArray} {n n' : Int}
theorem RrAt.lt (h : RrAt w b s n) : b < w.heap.size := lt_of_cell (a := ⟨b, 0, none⟩) h.c0
theorem RrAt.keep {bs : List Nat} (h : RrAt w b s n) (ha : Apart bs w w') (hn : b ∉ bs) : RrAt w' b s n :=
  ⟨(ha.cell (p := ⟨b, 0, none⟩) h.lt hn).trans h.c0, (ha.cell (p := ⟨b, 1, none⟩) h.lt hn).trans h.c1, fun j => (ha.frozen (p := ⟨b, j, none⟩) h.lt hn).trans (h.fz j)⟩
theorem RrAt.below (h : RrAt w b s n) (hb : Below w.heap.size w w') : RrAt w' b s n := h.keep (Apart.of_below (bs := []) hb) (by simp)
theorem load_rec (h : RrAt w b s n) : (loadVar 209 ⟨b, 0, none⟩).run Tryz.prog w = .ok (.agg #[.string s, .int .i64 n]) w := by
  have c0 := h.c0
  have c1 := h.c1
  clear h
  go_simp
theorem rr_stored (h : RrAt w b s n) (s' : ByteArray) (n' : Int) : RrAt ((w.setCell ⟨b, 0, none⟩ (.string s')).setCell ⟨b, 1, none⟩ (.int .i64 n')) b s' n' := by
  have h0 := h.c0
  have h1 := h.c1
  have e1 : (w.setCell ⟨b, 0, none⟩ (.string s')).cell? ⟨b, 1, none⟩ = some (.int .i64 n) := (World.cell?_setCell_other _ _ _ _ (by simp)).trans h1
  exact ⟨(World.cell?_setCell_other _ _ _ _ (by simp)).trans (World.cell?_setCell_same' _ _ _ (by rw [h0]; rfl)), World.cell?_setCell_same' _ _ _ (by rw [e1]; rfl), fun j => by simp [h.fz j]⟩
theorem rr_set1 (h : RrAt w b s n) (n' : Int) : RrAt (w.setCell ⟨b, 1, none⟩ (.int .i64 n')) b s n' := by
  have h0 := h.c0
  have h1 := h.c1
  exact ⟨(World.cell?_setCell_other _ _ _ _ (by simp)).trans h0, World.cell?_setCell_same' _ _ _ (by rw [h1]; rfl), fun j => by simp [h.fz j]⟩
theorem rr_apart (w : World) (b : Nat) (x y : Value) : Apart [b] w ((w.setCell ⟨b, 0, none⟩ x).setCell ⟨b, 1, none⟩ y) := ((Apart.refl [b] w).setCell (p := ⟨b, 0, none⟩) (by simp) x).setCell (p := ⟨b, 1, none⟩) (by simp) y
theorem ret_rec {fn : Func} {p u : Tmp} (h : fn.results = #[.cell p 209, .tmp u]) {tmps : Array Value} (hp : tmps.getD p undef = .pointer (some ⟨b, 0, none⟩)) (hn : RrAt w b s n) :
    (results fn tmps).run Tryz.prog w = .ok (.tuple #[.agg #[.string s, .int .i64 n], tmps.getD u undef]) w := by
  rw [results_cell_tmp h, hp]
  simp [asAddr, Result.andThen, load_rec hn]
end
theorem or_lowD (x z : Int) (hx : 0 <= x /\ x < 4294967296) (hz : 0 <= z /\ z <= 255) : bits .or .i64 (x * 256) z = x * 256 + z := by
  obtain ⟨X, rfl⟩ := Int.eq_ofNat_of_zero_le hx.1
  obtain ⟨Z, rfl⟩ := Int.eq_ofNat_of_zero_le hz.1
  have h2 : bits .or .i64 ((X : Int) * 256) (Z : Int) = IntKind.i64.wrap (((BitVec.ofInt 64 ((X : Int) * 256) ||| BitVec.ofInt 64 (Z : Int)).toNat : Nat) : Int) := rfl
  have e1 : (BitVec.ofInt 64 ((X : Int) * 256)).toNat = X * 256 := by rw [BitVec.toNat_ofInt]; omega
  have e2 : (BitVec.ofInt 64 (Z : Int)).toNat = Z := by rw [BitVec.toNat_ofInt]; omega
  have h3 : (BitVec.ofInt 64 ((X : Int) * 256) ||| BitVec.ofInt 64 (Z : Int)).toNat = X * 256 + Z := by
    rw [BitVec.toNat_or, e1, e2, show X * 256 = X <<< 8 by rw [Nat.shiftLeft_eq], <- Nat.shiftLeft_add_eq_or_of_lt (by omega)]
  rw [h2, h3]
  simp only [IntKind.wrap, IntKind.bits, IntKind.signed]
  simp
  omega
theorem below_drewD (w : World) : Below w.heap.size w w.drew := ⟨rfl, rfl, rfl, Nat.le_refl _, fun _ _ => rfl⟩
theorem wrap_inD (z : Int) (h0 : -9223372036854775808 <= z) (h1 : z <= 9223372036854775807) : IntKind.i64.wrap z = z := by
  simp only [IntKind.wrap, IntKind.bits, IntKind.signed]
  simp
  omega
theorem numB_snoc (zs : List Int) (d : Int) : numB (zs ++ [d]) = numB zs * 256 + d := by simp [numB, List.foldl_append]
theorem numB_take {zs : List Int} (h : ∀ z ∈ zs, 0 <= z /\ z <= 255) : ∀ k, k <= 4 -> 0 <= numB (zs.take k) /\ numB (zs.take k) < 256 ^ k
  | 0, _ => by simp [numB]
  | k + 1, hk => by
    have ih := numB_take h k (by omega)
    rw [List.take_add_one]
    cases e : zs[k]? with
    | none =>
      simp only [Option.toList_none, List.append_nil]
      refine ⟨ih.1, Int.lt_of_lt_of_le ih.2 ?_⟩
      rw [Int.pow_succ]
      have : (0 : Int) <= 256 ^ k := Int.pow_nonneg (by omega)
      omega
    | some d =>
      simp only [Option.toList_some]
      have hd := h d (List.mem_of_getElem? e)
      rw [numB_snoc, Int.pow_succ]
      omega
theorem bytes_sub {w : World} {bb off L cap : Nat} {zs : List Int} (h : BytesAt w (.slice (some ⟨bb, off, none⟩) L cap) zs) (l k : Nat) (hlk : l <= k) (hk : k <= L) : BytesAt w (.slice (some ⟨bb, off + l, none⟩) (k - l) (cap - l)) ((zs.take k).drop l) := by
  obtain ⟨a', cap', he, hr, hm, hn, hc⟩ := h
  obtain ⟨rfl, rfl, rfl⟩ := Value.slice.inj he
  have hlen : ((zs.take k).drop l).length = k - l := by simp; omega
  refine ⟨_, _, by rw [hlen], fun z hz => hr z (List.mem_of_mem_take (List.mem_of_mem_drop hz)), by rw [hlen]; omega, fun e => (by cases e), fun hne => ?_⟩
  obtain ⟨b', off', ha, hb, hcell⟩ := hc (by rintro rfl; simp at hne)
  simp only [Option.some.injEq, Addr.mk.injEq] at ha
  obtain ⟨rfl, rfl, -⟩ := ha
  refine ⟨bb, off + l, rfl, hb, fun j hj => ?_⟩
  rw [hlen] at hj
  rw [Nat.add_assoc, hcell (l + j) (by omega)]
  congr 2
  rw [List.getD_eq_getElem?_getD, List.getD_eq_getElem?_getD, List.getElem?_drop, List.getElem?_take, if_pos (by omega)]
structure SRd (w0 : World) (rb : Nat) (wx : World) : Prop where
  a : Apart [rb] w0 wx
  r : ∃ s n, RrAt wx rb s n
def ReadAns (b : List Int) (r : Value) (ok : Bool) : Prop := match readB b with
  | some q => ok = true /\ r = recV q.s (q.id : Nat)
  | none => ok = false /\ ∃ s n, r = recV s n
theorem dread_calls {w : World} {a : Option Addr} {cap : Nat} {b : List Int} (h : BytesAt w (.slice a 32 cap) b) (hc32 : 32 <= cap) :
    Calls Tryz.prog 246 #[.slice a 32 cap] w fun e w' => ∃ r ok, e = .returned (.tuple #[r, .bool ok]) /\ ReadAns b r ok /\ Below w.heap.size w w' := by
  have hl : b.length = 32 := by obtain ⟨_, _, hv, -⟩ := h; exact ((Value.slice.inj hv).2.1).symm
  have h0 := hidden h
  obtain ⟨a', cap', hv, hr, hm, hn, hcs⟩ := h
  obtain ⟨rfl, -, rfl⟩ := Value.slice.inj hv
  obtain ⟨bb, off, rfl, hbb, hcell⟩ := hcs (by intro e; rw [e] at hl; simp at hl)
  have hz0 : 0 <= b.getD 0 0 /\ b.getD 0 0 <= 255 := by
    refine hr _ ?_
    rw [List.getD_eq_getElem?_getD, List.getElem?_eq_getElem (by omega)]
    exact List.getElem_mem _
  obtain ⟨n, hn0⟩ : ∃ n : Nat, b.getD 0 0 = (n : Int) := ⟨(b.getD 0 0).toNat, by omega⟩
  have hnt : Hid ((b.getD 0 0).toNat = n) := hidden (by omega)
  have c0 := hcell 0 (by omega)
  rw [hn0, Nat.add_zero] at c0
  rw [hn0] at hz0
  replace hn0 := hidden hn0
  obtain ⟨w1, hw1, hB1, hR1, hs1⟩ : ∃ w1, w.alloc (.cells #[.string ⟨#[]⟩, .int .i64 0] 209) = w1 /\ Below w.heap.size w w1 /\ RrAt w1 w.heap.size ⟨#[]⟩ 0 /\ w1.heap.size = w.heap.size + 1 := ⟨_, rfl, (Below.refl _ _).alloc (Nat.le_refl _) _, ⟨by simp, by simp, by simp⟩, by simp⟩
  have c01 := (hB1.cell (p := ⟨bb, off, none⟩) hbb).trans c0
  clear hv hcs hn
  by_cases hbig : 27 < n
  · have hrd : readB b = none := by unfold readB; rw [hnt.out, if_pos hbig]
    have hb' : (28 : Int) < 1 + (n : Int) := by omega
    have r0 := hR1.c0
    have r1 := hR1.c1
    have f0 := hR1.fz 0
    have f1 := hR1.fz 1
    have hE := hidden hB1
    have hR := hidden hR1
    clear hcell hr hm h0 hB1 hR1 hs1
    go_enter Tryz.func246, Tryz.ntmps246
    go_wp2
    (try simp only [Exit.inBlock, Exit.then])
    refine bodyPost_ret (ret_rec rfl rfl (rr_stored hR.out ⟨#[]⟩ 0)) rfl ?_
    refine ⟨_, _, rfl, ?_, (hE.out.setCell (p := ⟨w.heap.size, 0, none⟩) (Nat.le_refl _) _).setCell (p := ⟨w.heap.size, 1, none⟩) (Nat.le_refl _) _⟩
    unfold ReadAns
    rw [hrd]
    exact ⟨rfl, [], 0, rfl⟩
  · have hb' : ¬ (28 : Int) < 1 + (n : Int) := by omega
    have hBy := (h0.out.below hB1)
    have hcv := conv_bytes w1 _ _ (bytes_sub hBy 1 (1 + n) (by omega) (by omega))
    have es : ofBytes ((b.take (1 + n)).drop 1) = mkB (toU ((b.drop 1).take n)) := by
      rw [ofB_toU, List.drop_take, show 1 + n - 1 = n by omega]
    rw [es, show 1 + n - 1 = n by omega] at hcv
    clear es
    have hrd := hidden (show readB b = if okB (toU ((b.drop 1).take n)) && (restB b n).all (fun z => z == 0) && !(numB (b.drop 28) == 0) then some ⟨toU ((b.drop 1).take n), (numB (b.drop 28)).toNat⟩ else none from by
      unfold readB
      rw [hnt.out, if_neg hbig])
    generalize toU ((b.drop 1).take n) = s at hcv hrd
    have kc := hidden (fun (wx : World) (hx : Below w.heap.size w wx) (k : Nat) (hk : k < 4) => show wx.cell? ⟨bb, off + 28 + k, none⟩ = some (.int .u8 (b.getD (28 + k) 0)) from by
      rw [Nat.add_assoc]
      exact (hx.cell (p := ⟨bb, off + (28 + k), none⟩) hbb).trans (hcell (28 + k) (by omega)))
    have kr := hidden (fun (k : Nat) (hk : k < 4) => show 0 <= b.getD (28 + k) 0 /\ b.getD (28 + k) 0 <= 255 from by
      refine hr _ ?_
      rw [List.getD_eq_getElem?_getD, List.getElem?_eq_getElem (by omega)]
      exact List.getElem_mem _)
    have kn := hidden (fun (k : Nat) (hk : k <= 4) => numB_take (zs := b.drop 28) (fun z hz => hr z (List.mem_of_mem_drop hz)) k hk)
    have kst := hidden (fun (k : Nat) (hk : k < 4) => show numB ((b.drop 28).take (k + 1)) = numB ((b.drop 28).take k) * 256 + b.getD (28 + k) 0 from by
      rw [List.take_add_one, List.getElem?_drop, List.getElem?_eq_getElem (by omega), Option.toList_some, numB_snoc, List.getD_eq_getElem?_getD, List.getElem?_eq_getElem (by omega)]
      rfl)
    have hdone := hidden (show (b.drop 28).take 4 = b.drop 28 from List.take_of_length_le (by rw [List.length_drop]; omega))
    have hBN := hidden (fun (wx : World) (hx : Below w.heap.size w wx) => dnoughts_calls (w := wx) (zs := restB b n) (v := .slice (some ⟨bb, off + (1 + n), none⟩) (27 - n) (cap - (1 + n))) (by
      have := bytes_sub (h0.out.below hx) (1 + n) 28 (by omega) (by omega)
      rw [List.drop_take, show 28 - (1 + n) = 27 - n by omega] at this
      exact this) (by unfold restB; rw [List.length_take, List.length_drop]; omega))
    clear hcell hr hm h0 hBy
    go_enter Tryz.func246, Tryz.ntmps246
    replace hB1 := hidden hB1
    replace hR1 := hidden hR1
    go_upto_region 5 with fail
    obtain ⟨w2, hw2, hB2, hR2, hQ2⟩ : ∃ w2, w1.alloc (.cells #[.string (mkB s), .int .i64 0] 209) = w2 /\ Below w1.heap.size w1 w2 /\ RrAt w2 (w.heap.size + 1) (mkB s) 0 /\ RrAt w2 w.heap.size ⟨#[]⟩ 0 := ⟨_, rfl, (Below.refl _ _).alloc (Nat.le_refl _) _, (by rw [<- hs1]; exact ⟨by simp, by simp, by simp⟩), hR1.out.below ((Below.refl _ _).alloc (Nat.le_refl _) _)⟩
    have hS2 := hidden (And.intro hQ2 (And.intro hR2 (hB1.out.trans (hB2.mono hB1.out.size))))
    rw [hw2]
    clear hB2 hR2 hQ2 hw2
    go_wp2_with fail
    go_loopg [24] 5 (fun gk q wr => ∃ k : Nat, k <= 4 /\ gk = 5 - k /\ q = .int .i64 k /\ Hid (RrAt wr w.heap.size ⟨#[]⟩ 0 /\ RrAt wr (w.heap.size + 1) (mkB s) (numB ((b.drop 28).take k)) /\ Below w.heap.size w wr))
    case atStart => exact ⟨0, by omega, rfl, rfl, hidden hS2.out⟩
    case round =>
      obtain ⟨k, hk, hgk, rfl, hI⟩ := hrel
      replace hgk := hidden hgk
      clear hS2 hcv
      by_cases hlt : k < 4
      · have cd := kc.out _ hI.out.2.2 k hlt
        have hd := kr.out k hlt
        have hx := kn.out k (by omega)
        have hstep := kst.out k hlt
        have r1 := hI.out.2.1.c1
        have f1 := hI.out.2.1.fz 1
        generalize b.getD (28 + k) 0 = d at cd hd hstep
        have hx2 : numB (List.take k (List.drop 28 b)) < 16777216 := by
          have : (256 : Int) ^ k <= 256 ^ 3 := by
            have h := Nat.pow_le_pow_right (n := 256) (by omega) (show k <= 3 by omega)
            have e : ∀ j : Nat, ((256 : Int) ^ j) = ((256 ^ j : Nat) : Int) := fun j => by simp
            rw [e, e]; omega
          have e : (256 : Int) ^ 3 = 16777216 := by decide
          omega
        have hx1 := hx.1
        have hor := or_lowD _ d ⟨hx1, Int.lt_trans hx2 (by decide)⟩ hd
        have hw := wrap_inD (numB (List.take k (List.drop 28 b)) * 256) (by omega) (by omega)
        have hE := hidden (fun (y : Int) (hy : y = numB (List.take (k + 1) (List.drop 28 b))) => show RrAt (wr.setCell ⟨w.heap.size + 1, 1, none⟩ (.int .i64 y)) w.heap.size ⟨#[]⟩ 0 /\ RrAt (wr.setCell ⟨w.heap.size + 1, 1, none⟩ (.int .i64 y)) (w.heap.size + 1) (mkB s) (numB ((b.drop 28).take (k + 1))) /\ Below w.heap.size w (wr.setCell ⟨w.heap.size + 1, 1, none⟩ (.int .i64 y)) from
          ⟨hI.out.1.keep ((Apart.refl [w.heap.size + 1] wr).setCell (p := ⟨w.heap.size + 1, 1, none⟩) (by simp) _) (by simp), by rw [<- hy]; exact rr_set1 hI.out.2.1 y, hI.out.2.2.setCell (p := ⟨w.heap.size + 1, 1, none⟩) (by show w.heap.size <= w.heap.size + 1; omega) _⟩)
        replace hstep := hidden hstep
        clear hI hx kc kr kn kst hBN
        generalize numB (List.take k (List.drop 28 b)) = x at *
        go_wp2
        go_roundg (5 - (k + 1))
        case measure => rw [hgk.out]; omega
        case rel => exact ⟨k + 1, by omega, rfl, by go_num, hidden (hE.out _ hstep.out.symm)⟩
      · obtain rfl : k = 4 := by omega
        obtain ⟨hQ, hR, hB⟩ := hI.out
        rw [hdone.out] at hR
        have hnr := kn.out 4 (Nat.le_refl _)
        rw [hdone.out] at hnr
        have hQd := hQ.below (below_drewD wr)
        have hRd := hR.below (below_drewD wr)
        have hBd := hB.trans ((below_drewD wr).mono hB.size)
        have q0 := hQd.c0
        have q1 := hQd.c1
        have qf0 := hQd.fz 0
        have qf1 := hQd.fz 1
        have r0 := hRd.c0
        have r1 := hRd.c1
        have kO := hidden (fun (wx : World) => show Calls Tryz.prog 131 #[.string (mkB s)] wx fun e w' => e = .returned (.bool (okB s)) /\ w' = wx from by
          have := ok_calls (mkB s) wx
          rw [mk_list] at this
          exact this)
        have hEnd := hidden (And.intro hQd hBd)
        replace hrd := hrd.out
        clear kc kr kn kst hI hQ hR hB hQd hRd hBd hdone hB1 hR1
        generalize numB (b.drop 28) = N at *
        have hN0 : 0 <= N := hnr.1
        have hN1 : N < 4294967296 := by have := hnr.2; have e : (256 : Int) ^ 4 = 4294967296 := by decide
                                        omega
        clear hnr
        generalize (restB b n).all (fun z => z == 0) = Z at *
        generalize okB s = O at *
        have hans : Hid (ReadAns b (recV s N) (O && Z && !(N == 0))) := hidden (by
          unfold ReadAns
          rw [hrd]
          cases O <;> cases Z <;> cases hN : (N == 0) <;> first | exact ⟨rfl, s, N, rfl⟩ | exact ⟨rfl, by simp [Int.toNat_of_nonneg hN0]⟩)
        clear hrd
        have hBd := hidden hEnd.out.2
        have hS0 : SRd wr.drew w.heap.size wr.drew := ⟨Apart.refl _ _, _, _, hEnd.out.1⟩
        have k0 := hidden (fun (wx : World) (hx : SRd wr.drew w.heap.size wx) => show wx.cell? ⟨w.heap.size + 1, 0, none⟩ = some (.string (mkB s)) from (hx.a.cell (p := ⟨w.heap.size + 1, 0, none⟩) (lt_of_cell (a := ⟨w.heap.size + 1, 0, none⟩) r0) (by simp)).trans r0)
        have k1 := hidden (fun (wx : World) (hx : SRd wr.drew w.heap.size wx) => show wx.cell? ⟨w.heap.size + 1, 1, none⟩ = some (.int .i64 N) from (hx.a.cell (p := ⟨w.heap.size + 1, 1, none⟩) (lt_of_cell (a := ⟨w.heap.size + 1, 1, none⟩) r1) (by simp)).trans r1)
        have hin : ∀ wx, SRd wr.drew w.heap.size wx -> Below w.heap.size w wx := fun wx hx => hBd.out.trans (hx.a.below (by simp) hBd.out.size)
        replace hin := hidden hin
        have hT1 : (1 + (n : Int)).toNat = 1 + n := by omega
        have hT2 : (28 : Int) <= (cap : Int) := by omega
        have hT3 : 0 <= 1 + (n : Int) := by omega
        have hT4 : ¬ cap = 1 + n := by omega
        have hT5 : 28 - (1 + n) = 27 - n := by omega
        clear q0 q1 qf0 qf1 r0 r1 hEnd
        cases O with
        | false =>
          go_upto_region 10 with fail
          refine wp_region_held_drew (S := SRd wr.drew w.heap.size) (by kernel_rfl) hS0 ?_
          intro _
          generalize wr.drew = wd at *
          refine wpAnyH_take (i := 0) (v := ?_) rfl (by kernel_rfl) (by kernel_rfl) (by kernel_rfl) (fun _ _ _ h => h) (Or.inl ⟨by rfl, ?_⟩) hS0 ?_
          rotate_left
          · intro w hw; have c0 := k0.out _ hw; have c1 := k1.out _ hw; clear hw; go_simp; try (with_reducible rfl)
          refine wpAnyH_ready (rs := [1]) (by kernel_rfl) (by simp) ?_
          refine AllReadyH.cons rfl (fun K hK => ?_) AllReadyH.nil
          go_simp
          refine hK.out _ _ hS0 (fun _ => ?_)
          clear hK K
          refine wpAnyH_ready (rs := [2]) (by kernel_rfl) (by simp) ?_
          refine AllReadyH.cons rfl (fun K hK => ?_) AllReadyH.nil
          have c0 := k0.out _ hS0
          go_simp
          refine hK.out _ _ hS0 (fun _ => ?_)
          clear hK K
          refine wpAnyH_ready (rs := [3]) (by kernel_rfl) (by simp) ?_
          refine AllReadyH.cons rfl (fun K hK => ?_) AllReadyH.nil
          go_simp
          go_wp2_with (go_at_call 131; refine (kO.out _).mono ?_; rintro ev wq ⟨rfl, hwq⟩; subst wq)
          refine hK.out _ _ hS0 (fun _ => ?_)
          clear hK K
          refine wpAnyH_ready (rs := [4]) (by kernel_rfl) (by simp) ?_
          refine AllReadyH.cons rfl (fun K hK => ?_) AllReadyH.nil
          go_simp
          refine hK.out _ _ hS0 (fun _ => ?_)
          clear hK K
          refine wpAnyH_take (i := 5) (v := undef) rfl (by kernel_rfl) (by kernel_rfl) (by kernel_rfl) (fun _ _ _ h => h) (Or.inr ⟨by kernel_rfl, rfl⟩) hS0 ?_
          refine wpAnyH_ready (rs := [6]) (by kernel_rfl) (by simp) ?_
          refine AllReadyH.cons rfl (fun K hK => ?_) AllReadyH.nil
          go_simp
          refine hK.out _ _ hS0 (fun _ => ?_)
          clear hK K
          refine wpAnyH_ready (rs := [7]) (by kernel_rfl) (by simp) ?_
          refine AllReadyH.cons rfl (fun K hK => ?_) AllReadyH.nil
          go_simp
          refine hK.out _ _ hS0 (fun _ => ?_)
          clear hK K
          refine wpAnyH_ready (rs := [8]) (by kernel_rfl) (by simp) ?_
          refine AllReadyH.cons rfl (fun K hK => ?_) AllReadyH.nil
          go_simp
          go_wp2_with (go_at_call 296; refine (hBN.out _ (hin.out _ hS0)).mono ?_; rintro ev wq ⟨rfl, hwq⟩; subst wq)
          refine hK.out _ _ hS0 (fun _ => ?_)
          clear hK K
          refine wpAnyH_ready (rs := [9]) (by kernel_rfl) (by simp) ?_
          refine AllReadyH.cons rfl (fun K hK => ?_) AllReadyH.nil
          go_simp
          refine hK.out _ _ hS0 (fun _ => ?_)
          clear hK K
          refine wpAnyH_ready (rs := [10]) (by kernel_rfl) (by simp) ?_
          refine AllReadyH.cons rfl (fun K hK => ?_) AllReadyH.nil
          go_simp
          refine hK.out _ _ hS0 (fun _ => ?_)
          clear hK K
          refine wpAnyH_take (i := 11) (v := undef) rfl (by kernel_rfl) (by kernel_rfl) (by kernel_rfl) (fun _ _ _ h => h) (Or.inr ⟨by kernel_rfl, rfl⟩) hS0 ?_
          refine wpAnyH_take (i := 12) (v := undef) rfl (by kernel_rfl) (by kernel_rfl) (by kernel_rfl) (fun _ _ _ h => h) (Or.inr ⟨by kernel_rfl, rfl⟩) hS0 ?_
          refine wpAnyH_take (i := 13) (v := undef) rfl (by kernel_rfl) (by kernel_rfl) (by kernel_rfl) (fun _ _ _ h => h) (Or.inr ⟨by kernel_rfl, rfl⟩) hS0 ?_
          refine wpAnyH_take (i := 14) (v := ?_) rfl (by kernel_rfl) (by kernel_rfl) (by kernel_rfl) (fun _ _ _ h => h) (Or.inl ⟨by rfl, ?_⟩) hS0 ?_
          rotate_left
          · intro w hw; clear hw; go_simp; try (with_reducible rfl)
          refine wpAnyH_ready (rs := [15]) (by kernel_rfl) (by simp) ?_
          refine AllReadyH.cons rfl (fun K hK => ?_) AllReadyH.nil
          obtain ⟨s', n', hq⟩ := hS0.r
          have q0 := hq.c0
          have q1 := hq.c1
          have qf0 := hq.fz 0
          have qf1 := hq.fz 1
          have hst := hidden (And.intro (rr_stored hq (mkB s) N) ((hS0.a).trans (rr_apart _ w.heap.size (.string (mkB s)) (.int .i64 N))))
          clear hq
          go_simp
          refine hK.out _ _ (⟨hst.out.2, _, _, hst.out.1⟩) (fun hSn1 => ?_)
          clear hK K
          refine wpAnyH_ready (rs := [16]) (by kernel_rfl) (by simp) ?_
          refine AllReadyH.cons rfl (fun K hK => ?_) AllReadyH.nil
          go_simp
          refine hK.out _ _ hSn1 (fun _ => ?_)
          clear hK K
          refine wpAnyH_done (by kernel_rfl) ?_ _
          have hst' := hst
          go_wp2
          (try simp only [Exit.inBlock, Exit.then])
          refine bodyPost_ret (ret_rec rfl rfl hst'.out.1) rfl ?_
          exact ⟨_, _, rfl, by first | exact hans.out | (have := hans.out; simp at this; simpa using this), hin.out _ ⟨hst'.out.2, _, _, hst'.out.1⟩⟩
        | true =>
          cases Z with
          | false =>
            go_upto_region 10 with fail
            refine wp_region_held_drew (S := SRd wr.drew w.heap.size) (by kernel_rfl) hS0 ?_
            intro _
            generalize wr.drew = wd at *
            refine wpAnyH_take (i := 0) (v := ?_) rfl (by kernel_rfl) (by kernel_rfl) (by kernel_rfl) (fun _ _ _ h => h) (Or.inl ⟨by rfl, ?_⟩) hS0 ?_
            rotate_left
            · intro w hw; have c0 := k0.out _ hw; have c1 := k1.out _ hw; clear hw; go_simp; try (with_reducible rfl)
            refine wpAnyH_ready (rs := [1]) (by kernel_rfl) (by simp) ?_
            refine AllReadyH.cons rfl (fun K hK => ?_) AllReadyH.nil
            go_simp
            refine hK.out _ _ hS0 (fun _ => ?_)
            clear hK K
            refine wpAnyH_ready (rs := [2]) (by kernel_rfl) (by simp) ?_
            refine AllReadyH.cons rfl (fun K hK => ?_) AllReadyH.nil
            have c0 := k0.out _ hS0
            go_simp
            refine hK.out _ _ hS0 (fun _ => ?_)
            clear hK K
            refine wpAnyH_ready (rs := [3]) (by kernel_rfl) (by simp) ?_
            refine AllReadyH.cons rfl (fun K hK => ?_) AllReadyH.nil
            go_simp
            go_wp2_with (go_at_call 131; refine (kO.out _).mono ?_; rintro ev wq ⟨rfl, hwq⟩; subst wq)
            refine hK.out _ _ hS0 (fun _ => ?_)
            clear hK K
            refine wpAnyH_ready (rs := [4]) (by kernel_rfl) (by simp) ?_
            refine AllReadyH.cons rfl (fun K hK => ?_) AllReadyH.nil
            go_simp
            refine hK.out _ _ hS0 (fun _ => ?_)
            clear hK K
            refine wpAnyH_take (i := 5) (v := ?_) rfl (by kernel_rfl) (by kernel_rfl) (by kernel_rfl) (fun _ _ _ h => h) (Or.inl ⟨by rfl, ?_⟩) hS0 ?_
            rotate_left
            · intro w hw; clear hw; go_simp; try (with_reducible rfl)
            refine wpAnyH_ready (rs := [6]) (by kernel_rfl) (by simp) ?_
            refine AllReadyH.cons rfl (fun K hK => ?_) AllReadyH.nil
            go_simp
            refine hK.out _ _ hS0 (fun _ => ?_)
            clear hK K
            refine wpAnyH_ready (rs := [7]) (by kernel_rfl) (by simp) ?_
            refine AllReadyH.cons rfl (fun K hK => ?_) AllReadyH.nil
            go_simp
            refine hK.out _ _ hS0 (fun _ => ?_)
            clear hK K
            refine wpAnyH_ready (rs := [8]) (by kernel_rfl) (by simp) ?_
            refine AllReadyH.cons rfl (fun K hK => ?_) AllReadyH.nil
            go_simp
            go_wp2_with (go_at_call 296; refine (hBN.out _ (hin.out _ hS0)).mono ?_; rintro ev wq ⟨rfl, hwq⟩; subst wq)
            refine hK.out _ _ hS0 (fun _ => ?_)
            clear hK K
            refine wpAnyH_ready (rs := [9]) (by kernel_rfl) (by simp) ?_
            refine AllReadyH.cons rfl (fun K hK => ?_) AllReadyH.nil
            go_simp
            refine hK.out _ _ hS0 (fun _ => ?_)
            clear hK K
            refine wpAnyH_ready (rs := [10]) (by kernel_rfl) (by simp) ?_
            refine AllReadyH.cons rfl (fun K hK => ?_) AllReadyH.nil
            go_simp
            refine hK.out _ _ hS0 (fun _ => ?_)
            clear hK K
            refine wpAnyH_take (i := 11) (v := undef) rfl (by kernel_rfl) (by kernel_rfl) (by kernel_rfl) (fun _ _ _ h => h) (Or.inr ⟨by kernel_rfl, rfl⟩) hS0 ?_
            refine wpAnyH_take (i := 12) (v := undef) rfl (by kernel_rfl) (by kernel_rfl) (by kernel_rfl) (fun _ _ _ h => h) (Or.inr ⟨by kernel_rfl, rfl⟩) hS0 ?_
            refine wpAnyH_take (i := 13) (v := undef) rfl (by kernel_rfl) (by kernel_rfl) (by kernel_rfl) (fun _ _ _ h => h) (Or.inr ⟨by kernel_rfl, rfl⟩) hS0 ?_
            refine wpAnyH_take (i := 14) (v := ?_) rfl (by kernel_rfl) (by kernel_rfl) (by kernel_rfl) (fun _ _ _ h => h) (Or.inl ⟨by rfl, ?_⟩) hS0 ?_
            rotate_left
            · intro w hw; clear hw; go_simp; try (with_reducible rfl)
            refine wpAnyH_ready (rs := [15]) (by kernel_rfl) (by simp) ?_
            refine AllReadyH.cons rfl (fun K hK => ?_) AllReadyH.nil
            obtain ⟨s', n', hq⟩ := hS0.r
            have q0 := hq.c0
            have q1 := hq.c1
            have qf0 := hq.fz 0
            have qf1 := hq.fz 1
            have hst := hidden (And.intro (rr_stored hq (mkB s) N) ((hS0.a).trans (rr_apart _ w.heap.size (.string (mkB s)) (.int .i64 N))))
            clear hq
            go_simp
            refine hK.out _ _ (⟨hst.out.2, _, _, hst.out.1⟩) (fun hSn1 => ?_)
            clear hK K
            refine wpAnyH_ready (rs := [16]) (by kernel_rfl) (by simp) ?_
            refine AllReadyH.cons rfl (fun K hK => ?_) AllReadyH.nil
            go_simp
            refine hK.out _ _ hSn1 (fun _ => ?_)
            clear hK K
            refine wpAnyH_done (by kernel_rfl) ?_ _
            have hst' := hst
            go_wp2
            (try simp only [Exit.inBlock, Exit.then])
            refine bodyPost_ret (ret_rec rfl rfl hst'.out.1) rfl ?_
            exact ⟨_, _, rfl, by first | exact hans.out | (have := hans.out; simp at this; simpa using this), hin.out _ ⟨hst'.out.2, _, _, hst'.out.1⟩⟩
          | true =>
            go_upto_region 10 with fail
            refine wp_region_held_drew (S := SRd wr.drew w.heap.size) (by kernel_rfl) hS0 ?_
            intro _
            generalize wr.drew = wd at *
            refine wpAnyH_take (i := 0) (v := ?_) rfl (by kernel_rfl) (by kernel_rfl) (by kernel_rfl) (fun _ _ _ h => h) (Or.inl ⟨by rfl, ?_⟩) hS0 ?_
            rotate_left
            · intro w hw; have c0 := k0.out _ hw; have c1 := k1.out _ hw; clear hw; go_simp; try (with_reducible rfl)
            refine wpAnyH_ready (rs := [1]) (by kernel_rfl) (by simp) ?_
            refine AllReadyH.cons rfl (fun K hK => ?_) AllReadyH.nil
            go_simp
            refine hK.out _ _ hS0 (fun _ => ?_)
            clear hK K
            refine wpAnyH_ready (rs := [2]) (by kernel_rfl) (by simp) ?_
            refine AllReadyH.cons rfl (fun K hK => ?_) AllReadyH.nil
            have c0 := k0.out _ hS0
            go_simp
            refine hK.out _ _ hS0 (fun _ => ?_)
            clear hK K
            refine wpAnyH_ready (rs := [3]) (by kernel_rfl) (by simp) ?_
            refine AllReadyH.cons rfl (fun K hK => ?_) AllReadyH.nil
            go_simp
            go_wp2_with (go_at_call 131; refine (kO.out _).mono ?_; rintro ev wq ⟨rfl, hwq⟩; subst wq)
            refine hK.out _ _ hS0 (fun _ => ?_)
            clear hK K
            refine wpAnyH_ready (rs := [4]) (by kernel_rfl) (by simp) ?_
            refine AllReadyH.cons rfl (fun K hK => ?_) AllReadyH.nil
            go_simp
            refine hK.out _ _ hS0 (fun _ => ?_)
            clear hK K
            refine wpAnyH_take (i := 5) (v := ?_) rfl (by kernel_rfl) (by kernel_rfl) (by kernel_rfl) (fun _ _ _ h => h) (Or.inl ⟨by rfl, ?_⟩) hS0 ?_
            rotate_left
            · intro w hw; clear hw; go_simp; try (with_reducible rfl)
            refine wpAnyH_ready (rs := [6]) (by kernel_rfl) (by simp) ?_
            refine AllReadyH.cons rfl (fun K hK => ?_) AllReadyH.nil
            go_simp
            refine hK.out _ _ hS0 (fun _ => ?_)
            clear hK K
            refine wpAnyH_ready (rs := [7]) (by kernel_rfl) (by simp) ?_
            refine AllReadyH.cons rfl (fun K hK => ?_) AllReadyH.nil
            go_simp
            refine hK.out _ _ hS0 (fun _ => ?_)
            clear hK K
            refine wpAnyH_ready (rs := [8]) (by kernel_rfl) (by simp) ?_
            refine AllReadyH.cons rfl (fun K hK => ?_) AllReadyH.nil
            go_simp
            go_wp2_with (go_at_call 296; refine (hBN.out _ (hin.out _ hS0)).mono ?_; rintro ev wq ⟨rfl, hwq⟩; subst wq)
            refine hK.out _ _ hS0 (fun _ => ?_)
            clear hK K
            refine wpAnyH_ready (rs := [9]) (by kernel_rfl) (by simp) ?_
            refine AllReadyH.cons rfl (fun K hK => ?_) AllReadyH.nil
            go_simp
            refine hK.out _ _ hS0 (fun _ => ?_)
            clear hK K
            refine wpAnyH_ready (rs := [10]) (by kernel_rfl) (by simp) ?_
            refine AllReadyH.cons rfl (fun K hK => ?_) AllReadyH.nil
            go_simp
            refine hK.out _ _ hS0 (fun _ => ?_)
            clear hK K
            refine wpAnyH_take (i := 11) (v := ?_) rfl (by kernel_rfl) (by kernel_rfl) (by kernel_rfl) (fun _ _ _ h => h) (Or.inl ⟨by rfl, ?_⟩) hS0 ?_
            rotate_left
            · intro w hw; clear hw; go_simp; try (with_reducible rfl)
            refine wpAnyH_take (i := 12) (v := ?_) rfl (by kernel_rfl) (by kernel_rfl) (by kernel_rfl) (fun _ _ _ h => h) (Or.inl ⟨by rfl, ?_⟩) hS0 ?_
            rotate_left
            · intro w hw; have c1 := k1.out _ hw; clear hw; go_simp; try (with_reducible rfl)
            refine wpAnyH_take (i := 13) (v := ?_) rfl (by kernel_rfl) (by kernel_rfl) (by kernel_rfl) (fun _ _ _ h => h) (Or.inl ⟨by rfl, ?_⟩) hS0 ?_
            rotate_left
            · intro w hw; clear hw; go_simp; try (with_reducible rfl)
            refine wpAnyH_take (i := 14) (v := ?_) rfl (by kernel_rfl) (by kernel_rfl) (by kernel_rfl) (fun _ _ _ h => h) (Or.inl ⟨by rfl, ?_⟩) hS0 ?_
            rotate_left
            · intro w hw; clear hw; go_simp; try (with_reducible rfl)
            refine wpAnyH_ready (rs := [15]) (by kernel_rfl) (by simp) ?_
            refine AllReadyH.cons rfl (fun K hK => ?_) AllReadyH.nil
            obtain ⟨s', n', hq⟩ := hS0.r
            have q0 := hq.c0
            have q1 := hq.c1
            have qf0 := hq.fz 0
            have qf1 := hq.fz 1
            have hst := hidden (And.intro (rr_stored hq (mkB s) N) ((hS0.a).trans (rr_apart _ w.heap.size (.string (mkB s)) (.int .i64 N))))
            clear hq
            go_simp
            refine hK.out _ _ (⟨hst.out.2, _, _, hst.out.1⟩) (fun hSn1 => ?_)
            clear hK K
            refine wpAnyH_ready (rs := [16]) (by kernel_rfl) (by simp) ?_
            refine AllReadyH.cons rfl (fun K hK => ?_) AllReadyH.nil
            go_simp
            refine hK.out _ _ hSn1 (fun _ => ?_)
            clear hK K
            refine wpAnyH_done (by kernel_rfl) ?_ _
            have hst' := hst
            go_wp2
            (try simp only [Exit.inBlock, Exit.then])
            refine bodyPost_ret (ret_rec rfl rfl hst'.out.1) rfl ?_
            exact ⟨_, _, rfl, by first | exact hans.out | (have := hans.out; simp at this; simpa using this), hin.out _ ⟨hst'.out.2, _, _, hst'.out.1⟩⟩
end Go.Proofs.YtpofmiecjkghgaaGreatDoor
