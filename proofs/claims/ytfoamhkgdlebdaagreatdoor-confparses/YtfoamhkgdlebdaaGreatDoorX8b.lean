/- conf.take: a kernel's line, and what is no line. -/
import Derived.Test.YtfoamhkgdlebdaaGreatDoorX7
namespace Go.Proofs.YtfoamhkgdlebdaaGreatDoor
open Go.RowKit Go.Extern.Stop Go.Stop Go.Extern
set_option maxRecDepth 100000

set_option maxHeartbeats 4000000 in
theorem take_ker (B b : Nat) (x : En) (v : Value) (w : World) (h : ESt B w b x v) (c : UInt8) (l n s : List UInt8) (hc : c ≠ 35) (hl : l.length < 100000) (hn : (cutSp (c :: l)).1 = n) (hs : (cutSp (c :: l)).2 = s) (hw : n = kwK) :
    Calls Tryz.prog 26 #[.pointer (some ⟨b, 0, none⟩), .string (mkB (c :: l))] w fun e w' => e = .returned (.bool (setB (x.kn, x.ks) s).isSome) ∧ TakeEnd B b w w' ((setB (x.kn, x.ks) s).map fun b => ⟨x.ver, b.1, b.2, x.ex, x.op⟩) := by
  have kC := hidden (cut_calls (c :: l) w (by simp; omega))
  have hsl := (sp_len (c :: l)).2
  rw [hn, hs] at kC
  rw [hs] at hsl
  have hBw := h.hs
  have hE : (mkB (c :: l)).toList.isEmpty = false := by rw [mk_toList]; rfl
  have hx := first_run c l
  have hy := none_run c hc
  have q1 : ((mkB n).toList == [101, 120, 116, 114, 97]) = false := by rw [mk_toList, hw]; decide
  have q2 : ((mkB n).toList == [107, 101, 114, 110, 101, 108]) = true := by rw [mk_toList, hw]; decide
  have kS := hidden (fun (wx : World) (hx : ESt B wx b x v) => setBlob_calls b 1 (x.kn, x.ks) s wx hx.en.c1 hx.en.c2 hx.fz (by simp at hsl; omega))
  obtain ⟨r, hr⟩ : ∃ r, setB (x.kn, x.ks) s = r := ⟨_, rfl⟩
  rw [hr] at kS ⊢
  replace h := hidden h
  clear hn hs hw hc hl hr
  go_enter Tryz.func26, Tryz.ntmps26
  go_upto_region 12 with (refine kC.out.mono ?_; rintro e w1 ⟨⟨tt, rfl⟩, hB1⟩; replace hB1 := hidden hB1)
  have h1 := h.out.below hB1.out
  have kS1 := hidden (kS.out _ h1)
  clear kS kC
  go_wp2_with fail
  refine kS1.out.mono ?_
  rintro e w2 ⟨rfl, nb, hT, hnb⟩
  have hz := hidden (show ESt B w2 b ⟨x.ver, nb.1, nb.2, x.ex, x.op⟩ v ∧ Kp B b w w2 from ⟨h1.two1 hT, (Kp.below (hB1.out.mono hBw) (Nat.le_of_lt h1.hb)).trans (Kp.apart hT.ap (Or.inl rfl) (Nat.le_of_lt h1.hb) h1.hs)⟩)
  replace hnb := hidden hnb
  clear kS1 hT h1
  go_wp2
  go_ret
  refine ⟨rfl, _, _, hz.out.1, hz.out.2, fun y hy => ?_⟩
  cases r with
  | none => simp at hy
  | some q => rw [hnb.out q rfl]; simp at hy; exact hy.symm
set_option maxHeartbeats 4000000 in
theorem take_no (B b : Nat) (x : En) (v : Value) (w : World) (h : ESt B w b x v) (c : UInt8) (l n s : List UInt8) (hc : c ≠ 35) (hl : l.length < 100000) (hn : (cutSp (c :: l)).1 = n) (hs : (cutSp (c :: l)).2 = s) (he : ¬ (n = kwE ∧ x.ex.length < 8)) (hk : n ≠ kwK) (hv : n ≠ kwV) (ho : n ≠ kwO) :
    Calls Tryz.prog 26 #[.pointer (some ⟨b, 0, none⟩), .string (mkB (c :: l))] w fun e w' => e = .returned (.bool false) ∧ Below w.heap.size w w' := by
  have kC := hidden (cut_calls (c :: l) w (by simp; omega))
  rw [hn, hs] at kC
  have hE : (mkB (c :: l)).toList.isEmpty = false := by rw [mk_toList]; rfl
  have hx := first_run c l
  have hy := none_run c hc
  have q2 : ((mkB n).toList == [107, 101, 114, 110, 101, 108]) = false := by rw [mk_toList]; exact beq_eq_false_iff_ne.2 hk
  have q3 : ((mkB n).toList == [118, 101, 114, 115, 105, 111, 110]) = false := by rw [mk_toList]; exact beq_eq_false_iff_ne.2 hv
  have q4 : ((mkB n).toList == [111, 112, 116, 105, 111, 110, 115]) = false := by rw [mk_toList]; exact beq_eq_false_iff_ne.2 ho
  by_cases h1 : n = kwE
  · have q1 : ((mkB n).toList == [101, 120, 116, 114, 97]) = true := by rw [mk_toList, h1]; decide
    obtain ⟨a, cap, hvv⟩ := h.own.form
    have hL : ¬ ((x.ex.length : Int) < 8) := fun h2 => he ⟨h1, by omega⟩
    have kc := hidden (fun (wx : World) (hx : Below w.heap.size w wx) => (h.below hx).en.c3)
    rw [hvv] at kc
    generalize x.ex.length = L at kc hL
    clear hn hs he hk hv ho hc hl h1 h hvv
    go_enter Tryz.func26, Tryz.ntmps26
    go_upto_region 5 with (refine kC.out.mono ?_; rintro e w1 ⟨⟨tt, rfl⟩, hB1⟩; replace hB1 := hidden hB1)
    have c3 := kc.out _ hB1.out
    go_wp2
    go_ret
    exact ⟨rfl, hB1.out⟩
  · have q1 : ((mkB n).toList == [101, 120, 116, 114, 97]) = false := by rw [mk_toList]; exact beq_eq_false_iff_ne.2 h1
    clear hn hs he hk hv ho hc hl h1 h
    go_enter Tryz.func26, Tryz.ntmps26
    go_wp2_with (refine kC.out.mono ?_; rintro e w1 ⟨⟨tt, rfl⟩, hB1⟩; replace hB1 := hidden hB1)
    go_ret
    exact ⟨rfl, hB1.out⟩
end Go.Proofs.YtfoamhkgdlebdaaGreatDoor
