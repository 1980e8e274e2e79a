/- InodeSizes. -/
import Derived.Test.YtopegpjkkicjhaaGreatDoorIgA
namespace Go.Proofs.YtopegpjkkicjhaaGreatDoor
open Go.RowKit Go.Extern.Stop Go.Stop Go.Extern Go.Maps Go.Sort Go.Shelf
set_option maxRecDepth 100000

/-- Cut to so many bytes, or grown by noughts. -/
def cutL (d : List Int) (n : Nat) : List Int := (grownL d n).take n
theorem cutL_len (d : List Int) (n : Nat) : (cutL d n).length = n := by unfold cutL grownL; rw [List.length_take, List.length_append, List.length_replicate]; omega
theorem cutL_less (d : List Int) (n : Nat) (h : n ≤ d.length) : cutL d n = d.take n := by
  unfold cutL grownL
  rw [show n - d.length = 0 by omega]
  simp
theorem cutL_more (d : List Int) (n : Nat) (h : d.length ≤ n) : cutL d n = grownL d n := by
  unfold cutL
  rw [List.take_of_length_le]
  unfold grownL
  rw [List.length_append, List.length_replicate]; omega
theorem S8.cut {E : TE} {K : Nat → Nat} {D : Nat → List Int} {f lim : Nat} {w : World} (ok : E.Ok) (h : S8 E K D f lim w) {id : Nat} (h1 : 1 ≤ id) (h2 : id ≤ E.tn) (hk : K id ≠ 0) {S2 : Nat} (hS2 : S2 ≤ 4000) (hfr : blk (S2 : Int) ≤ (f : Int) + blk ((D id).length : Int)) :
    Calls Tryz.prog 25 #[ptr E.tb, .int .i64 id, .int .i64 S2] w fun e w' => e = .returned .nilIface ∧ (∃ f' : Nat, (f' : Int) + blk (S2 : Int) = (f : Int) + blk ((D id).length : Int) ∧ S8 E K (upd D id (cutL (D id) S2)) f' lim w') ∧ Apart [E.mb] w w' := by
  have hlen := h.len h1 h2
  by_cases hS : S2 < (D id).length
  · have hge : blk (S2 : Int) ≤ blk ((D id).length : Int) := by unfold blk; split <;> split <;> (try split) <;> (try split) <;> (try split) <;> (try split) <;> omega
    obtain ⟨n, hn⟩ : ∃ n : Nat, blk ((D id).length : Int) - blk (S2 : Int) = (n : Int) := ⟨(blk ((D id).length : Int) - blk (S2 : Int)).toNat, by omega⟩
    refine (S8.cutless ok h h1 h2 hk hS hn).mono ?_
    rintro e w' ⟨rfl, r1, r2⟩
    rw [cutL_less _ _ (by omega)]
    exact ⟨rfl, ⟨_, by omega, r1⟩, r2⟩
  · have hge : blk ((D id).length : Int) ≤ blk (S2 : Int) := by unfold blk; split <;> split <;> (try split) <;> (try split) <;> (try split) <;> (try split) <;> omega
    obtain ⟨n, hn⟩ : ∃ n : Nat, growb ((D id).length : Int) (S2 : Int) = (n : Int) := ⟨(growb ((D id).length : Int) (S2 : Int)).toNat, by have := growb_range ((D id).length : Int) (S2 : Int); omega⟩
    have hn' : (n : Int) = blk (S2 : Int) - blk ((D id).length : Int) := by unfold growb at hn; omega
    refine (S8.cutmore ok h h1 h2 hk (by omega) hS2 hn (by omega)).mono ?_
    rintro e w' ⟨rfl, r1, r2⟩
    rw [cutL_more _ _ (by omega)]
    exact ⟨rfl, ⟨_, by omega, r1⟩, r2⟩
theorem text_len (s t : ByteArray) (h : s = t) : (s.toList == t.toList) = true := by rw [h]; simp
theorem putD_all (zs : List Int) : putD [] zs 0 zs.length = zs := by
  apply List.ext_getElem?
  intro j
  unfold putD
  rw [List.getElem?_map]
  by_cases h : j < zs.length
  · rw [List.getElem?_range h]
    simp [h, List.getD]
  · rw [List.getElem?_eq_none (l := List.range zs.length) (by simp; omega), List.getElem?_eq_none (by omega)]
    rfl
set_option maxHeartbeats 8000000 in
theorem inodeSizes_calls (za zb : Int) (w : World) (hG : Ground w) :
    Calls Tryz.prog 6 #[.int .i64 za, .int .i64 zb] w fun e w' => e = .returned (.bool true) ∧ Below w.heap.size w w' := by
  obtain ⟨a, ha, hab⟩ : ∃ L : Nat, (bits .and .i64 za 65535).tmod 4001 = (L : Int) ∧ L ≤ 4000 := by
    have hal : 0 ≤ bits .and .i64 za 65535 ∧ bits .and .i64 za 65535 ≤ 65535 := and_low za 65535 (by omega)
    have e : (bits .and .i64 za 65535).tmod 4001 = bits .and .i64 za 65535 % 4001 := Int.tmod_eq_emod_of_nonneg hal.1
    exact ⟨((bits .and .i64 za 65535) % 4001).toNat, by rw [e]; omega, by omega⟩
  obtain ⟨b, hb, hbb⟩ : ∃ L : Nat, (bits .and .i64 zb 65535).tmod 4001 = (L : Int) ∧ L ≤ 4000 := by
    have hal : 0 ≤ bits .and .i64 zb 65535 ∧ bits .and .i64 zb 65535 ≤ 65535 := and_low zb 65535 (by omega)
    have e : (bits .and .i64 zb 65535).tmod 4001 = bits .and .i64 zb 65535 % 4001 := Int.tmod_eq_emod_of_nonneg hal.1
    exact ⟨((bits .and .i64 zb 65535) % 4001).toNat, by rw [e]; omega, by omega⟩
  have kM := hidden (made8_calls w hG 60 (by omega) (by omega))
  have kA := hidden (fun (wx : World) (hx : Below w.heap.size w wx) => awake8_calls wx (hG.below hx))
  have kT := hidden (fun (wx : World) => text_calls 1 4000 (by omega) (by omega) wx)
  have kB := hidden (fun (s : Int) (wx : World) => refblocks_calls s wx)
  obtain ⟨d0, hd0⟩ : ∃ d0, d0 = textL 1 4000 := ⟨_, rfl⟩
  have hl0 : d0.length = 4000 := by rw [hd0]; exact textL_len _ _
  have hr0 : ∀ z ∈ d0, 0 ≤ z ∧ z ≤ 255 := by rw [hd0]; exact textL_range _ _
  rw [← hd0] at kT
  replace hl0 := hidden hl0
  replace hr0 := hidden hr0
  clear hG hd0
  go_enter Tryz.func6, Tryz.ntmps6
  go_wp2_with fail
  refine (kM.out).mono ?_
  rintro ev w1 ⟨jb, cb, mb, ab, tb, rfl, ok, far, hS⟩
  have h1 := s8_new hS
  have kK := hidden (S8.make ok h1 1 (Or.inl rfl) 1 (by omega) (by show 1 ≤ 6; omega) rfl (fun i a b => by omega))
  replace ok := hidden ok
  replace far := hidden far
  clear kM hS h1
  go_wp2_with fail
  refine (kK.out).mono ?_
  rintro ev w2 ⟨rfl, h2, -⟩
  have hK1 := hidden (show (upd (fun _ => 0) 1 1 : Nat → Nat) 1 ≠ 0 by simp [upd])
  generalize (upd (fun _ => 0) 1 1 : Nat → Nat) = K at *
  have hm2 : mb < w2.heap.size := h2.lts.2.2.2.2.1
  replace h2 := hidden h2
  clear kK ha hb
  go_wp2_with fail
  refine (kT.out _).mono ?_
  rintro ev w4 ⟨rfl, hB4⟩
  have hs4 := hB4.size
  obtain ⟨cap, w5, hcv, hbc, hB5⟩ := bytes_of mb w4 d0 hr0.out (by rw [hl0.out]; omega) (by omega)
  have h5 := (h2.out.more hB4).more hB5
  have hb33 : growb 0 ((4000 : Nat) : Int) = ((33 : Nat) : Int) := by decide
  have kW := hidden (S8.write ok.out h5 (id := 1) (by omega) (by show 1 ≤ 6; omega) hK1.out (at_ := 0) (n := 33) (S2 := 4000) hbc (by rw [hl0.out]; omega) (by rw [hl0.out]; omega) (by rw [hl0.out]; rfl) hb33 (by omega))
  have hpa : putD [] d0 0 4000 = d0 := by have := putD_all d0; rw [hl0.out] at this; exact this
  rw [hpa] at kW
  rw [hl0.out] at hcv kW
  obtain ⟨TX, hTX⟩ : ∃ TX, TX = ofBytes d0 := ⟨_, rfl⟩
  rw [← hTX] at hcv kT ⊢
  replace hTX := hidden hTX
  clear hbc hB5 hB4 h5 hb33 hpa
  go_wp2_with fail
  refine (kW.out).mono ?_
  rintro ev w6 ⟨rfl, h6, -⟩
  clear kW h2 hcv
  have hD6 := hidden (show (upd (fun _ => ([] : List Int)) 1 d0) 1 = d0 from upd_same _ _ _)
  generalize upd (fun _ => ([] : List Int)) 1 d0 = D at *
  have h33 : blk ((4000 : Nat) : Int) = 33 := by decide
  have hba := blk_range (a : Int)
  have hbbr := blk_range (b : Int)
  have kC := hidden (S8.cut ok.out h6 (id := 1) (by omega) (by show 1 ≤ 6; omega) hK1.out (S2 := a) hab (by rw [hD6.out, hl0.out, h33]; omega))
  rw [hD6.out, hl0.out, h33] at kC
  clear h6 h33
  go_wp2_with fail
  refine (kC.out).mono ?_
  rintro ev w7 ⟨rfl, ⟨f1, hf1, h7⟩, -⟩
  have hf1' : (f1 : Int) = 60 - blk (a : Int) := by omega
  have hD7 := hidden (show (upd D 1 (cutL d0 a)) 1 = cutL d0 a from upd_same _ _ _)
  generalize upd D 1 (cutL d0 a) = D2 at *
  have kF := hidden (S8.flush ok.out far.out h7 (by omega))
  clear kC h7 hf1 hD6
  go_wp2_with fail
  refine (kF.out).mono ?_
  rintro ev w8 ⟨rfl, h8, -⟩
  have kFr := hidden (S8.mfree ok.out h8)
  replace h8 := hidden h8
  clear kF
  go_wp2_with fail
  refine (kFr.out).mono ?_
  rintro ev w9 ⟨rfl, hB9⟩
  have h9 := hidden (h8.out.more hB9)
  clear kFr hB9 h8
  go_wp2_with fail
  refine (kB.out _ w9).mono ?_
  rintro ev wq ⟨rfl, hwq⟩
  subst wq
  have kC2 := hidden (S8.cut ok.out h9.out (id := 1) (by omega) (by show 1 ≤ 6; omega) hK1.out (S2 := b) hbb (by rw [hD7.out, cutL_len]; omega))
  rw [hD7.out, cutL_len] at kC2
  have hne1 : ((f1 : Int) != 60 - blk (a : Int)) = false := by simp [hf1']
  replace hf1' := hidden hf1'
  generalize blk (a : Int) = BA at *
  go_wp2_with fail
  refine (kC2.out).mono ?_
  rintro ev w10 ⟨rfl, ⟨f2, hf2, h10⟩, -⟩
  have hf2' : (f2 : Int) = 60 - blk (b : Int) := by have := hf1'.out; omega
  have hD10 := hidden (show (upd D2 1 (cutL (cutL d0 a) b)) 1 = cutL (cutL d0 a) b from upd_same _ _ _)
  generalize upd D2 1 (cutL (cutL d0 a) b) = D3 at *
  have kFr2 := hidden (S8.mfree ok.out h10)
  replace h10 := hidden h10
  clear kC2 hf2 h9 hne1
  go_wp2_with fail
  refine (kFr2.out).mono ?_
  rintro ev w11 ⟨rfl, hB11⟩
  have h11 := hidden (h10.out.more hB11)
  clear kFr2 hB11 h10
  have kR := S8.read ok.out h11.out (id := 1) (by omega) (by show 1 ≤ 6; omega) hK1.out 0 4000 (by omega) (by omega)
  rw [hD10.out, List.drop_zero, List.take_of_length_le (by rw [cutL_len]; omega)] at kR
  replace kR := hidden kR
  go_wp2_with fail
  refine (kR.out).mono ?_
  rintro ev w12 ⟨v, rfl, hV, hB12⟩
  have hE12 := hidden ((h11.out.more hB12).below)
  have hVC := hidden (hV.toC (m := mb) (by have := h11.out.lts.2.2.2.2.1; exact this))
  clear kR hV hB12 h11
  go_wp2_with fail
  refine (kT.out _).mono ?_
  rintro ev w13 ⟨rfl, hB13⟩
  have hE13 := hidden (hE12.out.trans (hB13.mono hE12.out.size))
  have hVC13 := hidden (hVC.out.keep (Apart.of_below (bs := [mb]) hB13))
  clear hB13 hE12 hVC
  have hTs : TX.size = 4000 := by rw [hTX.out, ofB_size, hl0.out]
  have hc1 : TX.extract 0 a = ofBytes (cutL d0 a) := by rw [hTX.out, ofB_cut, cutL_less _ _ (by rw [hl0.out]; exact hab)]; rfl
  have kGr := hidden (fun (wx : World) => grown_calls (cutL d0 a) b (by rw [cutL_len]; omega) (by omega) wx)
  rw [← hc1] at kGr
  obtain ⟨GG, hGG⟩ : ∃ GG, GG = ofBytes (grownL (cutL d0 a) b) := ⟨_, rfl⟩
  rw [← hGG] at kGr
  have hGs : b ≤ GG.size := by rw [hGG, ofB_size]; unfold grownL; rw [List.length_append, List.length_replicate]; omega
  have hGs' : (b : Int) ≤ (GG.size : Int) := by omega
  have has' : (a : Int) ≤ (TX.size : Int) := by omega
  have hc2 : GG.extract 0 b = ofBytes (cutL (cutL d0 a) b) := by rw [hGG, ofB_cut]; rfl
  replace hc1 := hidden hc1
  replace hGG := hidden hGG
  go_wp2_with fail
  refine (kGr.out _).mono ?_
  rintro ev w14 ⟨rfl, hB14⟩
  have hE14 := hidden (hE13.out.trans (hB14.mono hE13.out.size))
  have hcv14 := conv_bytes _ _ _ (hVC13.out.keep (Apart.of_below (bs := [mb]) hB14)).at
  rw [← hc2] at hcv14
  replace hc2 := hidden hc2
  have hne2 : ((f2 : Int) == 60 - blk (b : Int)) = true := by simp [hf2']
  replace hf2' := hidden hf2'
  clear hB14 hE13 hVC13 kGr
  go_wp2_with fail
  refine (kB.out _ w14).mono ?_
  rintro ev wq ⟨rfl, hwq⟩
  subst wq
  generalize blk (b : Int) = BB at *
  go_wp2_with fail
  refine (kA.out _ hE14.out).mono ?_
  rintro ev w15 ⟨rfl, hB15⟩
  have hE15 := hidden (hE14.out.trans (hB15.mono hE14.out.size))
  clear hB15
  go_wp2
  go_ret
  exact ⟨rfl, hE15.out⟩
end Go.Proofs.YtopegpjkkicjhaaGreatDoor
