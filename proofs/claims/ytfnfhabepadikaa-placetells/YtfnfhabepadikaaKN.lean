/- PlaceTells. -/
import Derived.Test.YtfnfhabepadikaaKC3
import Derived.Deep.RegionHeld3
namespace Go.Proofs.Ytfnfhabepadikaa
open Go Go.RowKit
set_option maxRecDepth 100000

set_option maxHeartbeats 8000000 in
theorem placeTells_calls (L : List Rg) (z : Int) (r : Rg) (w : World) (v : Value) (hv : RgAt w v L) : Calls Try.prog 5 #[v, .int .i64 z, .agg #[.int .i64 r.1, .int .i64 r.2]] w fun e w' => e = .returned (.bool true) ∧ Below w.heap.size w w' := by
  have kA := hidden (fun wx => awake_calls wx)
  obtain ⟨rx, ry⟩ := r
  dsimp only
  obtain ⟨g, hg⟩ : ∃ g, w.heap.size = g := ⟨_, rfl⟩
  have hbr := hidden (show Box (w.alloc (Obj.cells #[Value.int .i64 rx, Value.int .i64 ry] 25)) g rx ry by rw [← hg]; exact box_at w rx ry)
  have hBr := hidden (box_new w (Obj.cells #[Value.int .i64 rx, Value.int .i64 ry] 25))
  have hv1 := hv.below hBr.out
  clear hv
  by_cases h100 : 100 < L.length
  · have h100' : (100 : Int) < (L.length : Int) := by omega
    obtain ⟨a0, cap, rfl, -⟩ := hv1.form
    clear hv1
    go_enter Try.func5, Try.ntmps5
    go_wp2_with (go_at_call 10; refine (kA.out _).mono ?_; rintro e we ⟨rfl, hBe⟩; have hBe2 := hidden (hBr.out.trans (hBe.mono hBr.out.size)))
    go_ret
    exact ⟨rfl, hBe2.out⟩
  have h100' : ¬ (100 : Int) < (L.length : Int) := by omega
  have hl : L.length ≤ 100000 := by omega
  have hl2 : (cleanL L).length ≤ 100000 := by have := cleanL_len L; omega
  have hl3 : (takeL (cleanL L) (rx, ry)).length ≤ 100000 := by have := take_len1 (rx, ry) (cleanL_cln L); have := cleanL_len L; omega
  generalize hw1 : w.alloc (Obj.cells #[Value.int .i64 rx, Value.int .i64 ry] 25) = w1 at *
  have hV := hidden (fun (wx : World) (hx : Below w1.heap.size w1 wx) => hv1.below hx)
  have kF := hidden (fun (wx : World) (hx : Below w1.heap.size w1 wx) => pfind_calls L z wx v (hV.out wx hx) hl)
  have kRF := hidden (fun (wx : World) (hx : Below w1.heap.size w1 wx) => rfind_calls L z wx v (hV.out wx hx) hl)
  have kOk := hidden (fun (wx : World) (hx : Below w1.heap.size w1 wx) => ok_calls L wx v (hV.out wx hx) hl)
  have kRok := hidden (fun (wx : World) (hx : Below w1.heap.size w1 wx) => rok_calls L wx v (hV.out wx hx) hl)
  have kC := hidden (fun (wx : World) (hx : Below w1.heap.size w1 wx) => clean_calls L wx v (hV.out wx hx) hl)
  have kRC := hidden (fun (wx : World) (hx : Below w1.heap.size w1 wx) => rclean_calls L wx v (hV.out wx hx) hl)
  have kT := hidden (fun (wx : World) (hx : Below w1.heap.size w1 wx) => ptake_calls L (rx, ry) wx v (hV.out wx hx) hl)
  have kRT := hidden (fun (wx : World) (hx : Below w1.heap.size w1 wx) => rtake_calls L (rx, ry) wx v (hV.out wx hx) hl)
  unfold findV at kRF
  unfold rv at kT kRT
  dsimp only at kT kRT
  generalize takeL (cleanL L) (rx, ry) = T at *
  generalize (findL (cleanL L) z).getD 0 = g1 at *
  generalize (findL (cleanL L) z).isSome = g2 at *
  generalize cleanL L = C at *
  generalize okB L = q at *
  have hsC := hidden (fun (wx : World) (va vb : Value) (h1 : RgAt wx va C) (h2 : RgAt wx vb C) => (show Calls Try.prog 15 #[va, vb] wx fun e w' => e = .returned (.bool true) ∧ Below wx.heap.size wx w' by
    have := same_calls C C wx va vb h1 h2 hl2 hl2
    rwa [show decide (C = C) = true from decide_eq_true rfl] at this))
  have hsT := hidden (fun (wx : World) (va vb : Value) (h1 : RgAt wx va T) (h2 : RgAt wx vb T) => (show Calls Try.prog 15 #[va, vb] wx fun e w' => e = .returned (.bool true) ∧ Below wx.heap.size wx w' by
    have := same_calls T T wx va vb h1 h2 hl3 hl3
    rwa [show decide (T = T) = true from decide_eq_true rfl] at this))
  have kB := hidden (fun (wx : World) (hx : Below w1.heap.size w1 wx) => (show wx.cell? ⟨g, 0, none⟩ = some (.int .i64 rx) ∧ wx.cell? ⟨g, 1, none⟩ = some (.int .i64 ry) ∧ Below w1.heap.size w1 wx from ⟨(hbr.out.below hx).c0, (hbr.out.below hx).c1, hx⟩))
  obtain ⟨a0, cap, rfl, -⟩ := hv1.form
  subst hw1
  clear hv1 hV hl hl2 hl3 hbr
  go_enter Try.func5, Try.ntmps5
  go_wp2_with fail
  generalize w.alloc (Obj.cells #[Value.int .i64 rx, Value.int .i64 ry] 25) = w1 at *
  refine (kF.out w1 (Below.refl _ _)).mono ?_
  rintro e w2 ⟨rfl, hB2⟩
  replace hB2 := hidden hB2
  clear kF
  go_wp2_with fail
  refine (kRF.out w2 hB2.out).mono ?_
  rintro e w3 ⟨rfl, hB3⟩
  have hB4 := hB2.out.trans (hB3.mono hB2.out.size)
  have hSa := kB.out _ hB4
  have hS0 := kB.out _ hB4.drew
  clear hB2 hB3 kRF hB4
  go_upto_region 5 with fail
  go_region_held3 (fun w' => w'.cell? ⟨g, 0, none⟩ = some (.int .i64 rx) ∧ w'.cell? ⟨g, 1, none⟩ = some (.int .i64 ry) ∧ Below w1.heap.size w1 w') (first | exact hS0 | assumption)
    (first
    | (go_at_call 13; refine (kOk.out _ hS0.2.2).mono ?_; rintro e wa ⟨rfl, hBa0⟩; have hSb := kB.out _ (hS0.2.2.trans (hBa0.mono hS0.2.2.size)))
    | (go_at_call 14; refine (kRok.out _ hSb.2.2).mono ?_; rintro e wb ⟨rfl, hBb0⟩; have hSc := kB.out _ (hSb.2.2.trans (hBb0.mono hSb.2.2.size)))
    | (go_at_call 16; refine (kC.out _ hSc.2.2).mono ?_; rintro e wc ⟨⟨vc, rfl, hAc⟩, hBc0⟩; have hSd := kB.out _ (hSc.2.2.trans (hBc0.mono hSc.2.2.size)))
    | (go_at_call 17; refine (kRC.out _ hSd.2.2).mono ?_; rintro e wd ⟨⟨vd, rfl, hAd⟩, hBd0⟩; have hSe := kB.out _ (hSd.2.2.trans (hBd0.mono hSd.2.2.size)); have kS1 := hidden (hsC.out wd vc vd (hAc.below hBd0) hAd))
    | (go_at_call 15; refine kS1.out.mono ?_; rintro e we ⟨rfl, hBe0⟩; have hSf := kB.out _ (hSe.2.2.trans (hBe0.mono hSe.2.2.size)); clear kS1)
    | (go_at_call 18; refine (kT.out _ hSf.2.2).mono ?_; rintro e wf ⟨⟨vf, rfl, hAf⟩, hBf0⟩; have hSg := kB.out _ (hSf.2.2.trans (hBf0.mono hSf.2.2.size)))
    | (go_at_call 19; refine (kRT.out _ hSg.2.2).mono ?_; rintro e wg ⟨⟨vg, rfl, hAg⟩, hBg0⟩; have hSh := kB.out _ (hSg.2.2.trans (hBg0.mono hSg.2.2.size)); have kS2 := hidden (hsT.out wg vf vg (hAf.below hBg0) hAg))
    | (go_at_call 15; refine kS2.out.mono ?_; rintro e wh ⟨rfl, hBh0⟩; have hSi := kB.out _ (hSh.2.2.trans (hBh0.mono hSh.2.2.size)); clear kS2)
    | (go_at_call 10; refine (kA.out _).mono ?_; rintro e wi ⟨rfl, hBi0⟩; have hSj := kB.out _ (hSi.2.2.trans (hBi0.mono hSi.2.2.size))))
  all_goals
    go_wp2
    go_ret
    exact ⟨rfl, hBr.out.trans (hSj.2.2.mono hBr.out.size)⟩
end Go.Proofs.Ytfnfhabepadikaa
