/- conf.take, by its words. -/
import Derived.Test.YtfoamhkgdlebdaaGreatDoorX7
namespace Go.Proofs.YtfoamhkgdlebdaaGreatDoor
open Go.RowKit Go.Extern.Stop Go.Stop Go.Extern
set_option maxRecDepth 100000

theorem tk_set {B b : Nat} {x : En} {v : Value} {w w2 w' : World} (h2 : ESt B w2 b x v) (hb1 : Below w.heap.size w w2) (hBw : B ≤ w.heap.size) {t : List UInt8} (hP : Put w2 w' b 0 t) : ESt B w' b ⟨t, x.kn, x.ks, x.ex, x.op⟩ v ∧ Kp B b w w' :=
  ⟨h2.put0 hP, (Kp.below (hb1.mono hBw) (Nat.le_of_lt h2.hb)).trans (Kp.apart hP.ap (Or.inl rfl) (Nat.le_of_lt h2.hb) h2.hs)⟩
set_option maxHeartbeats 4000000 in
theorem take_ver (B b : Nat) (x : En) (v : Value) (w : World) (h : ESt B w b x v) (c : UInt8) (l n s : List UInt8) (hc : c ≠ 35) (hl : l.length < 100000) (hn : (cutSp (c :: l)).1 = n) (hs : (cutSp (c :: l)).2 = s) (hw : n = kwV) :
    Calls Tryz.prog 26 #[.pointer (some ⟨b, 0, none⟩), .string (mkB (c :: l))] w fun e w' => e = .returned (.bool (putT x.ver s && verB s)) ∧ TakeEnd B b w w' (if (putT x.ver s && verB s) = true then some ⟨s, x.kn, x.ks, x.ex, x.op⟩ else none) := by
  have kC := hidden (cut_calls (c :: l) w (by simp; omega))
  have hsl := (sp_len (c :: l)).2
  rw [hn, hs] at kC
  rw [hs] at hsl
  have hBw := h.hs
  have hE : (mkB (c :: l)).toList.isEmpty = false := by rw [mk_toList]; rfl
  have hx := first_run c l
  have hy := none_run c hc
  have q1 : ((mkB n).toList == [101, 120, 116, 114, 97]) = false := by rw [mk_toList, hw]; decide
  have q2 : ((mkB n).toList == [107, 101, 114, 110, 101, 108]) = false := by rw [mk_toList, hw]; decide
  have q3 : ((mkB n).toList == [118, 101, 114, 115, 105, 111, 110]) = true := by rw [mk_toList, hw]; decide
  have kS := hidden (fun (wx : World) (hx : ESt B wx b x v) => set_calls b 0 x.ver s wx hx.en.c0 (hx.fz 0) (by simp at hsl; omega))
  obtain ⟨p1, hp1⟩ : ∃ p, putT x.ver s = p := ⟨_, rfl⟩
  obtain ⟨p2, hp2⟩ : ∃ p, verB s = p := ⟨_, rfl⟩
  rw [hp1] at kS
  rw [hp1, hp2]
  obtain ⟨r, hr⟩ : ∃ r : Option En, (if (p1 && p2) = true then some ⟨s, x.kn, x.ks, x.ex, x.op⟩ else none) = r := ⟨_, rfl⟩
  rw [hr]
  replace hr := hidden hr
  replace hp2 := hidden hp2
  replace h := hidden h
  clear hn hs hw hc hl hp1
  go_enter Tryz.func26, Tryz.ntmps26
  go_upto_region 13 with (refine kC.out.mono ?_; rintro e w1 ⟨⟨tt, rfl⟩, hB1⟩; replace hB1 := hidden hB1)
  have h1 := h.out.below hB1.out
  have kS1 := hidden (kS.out _ h1)
  clear kS kC
  go_wp2_with fail
  refine kS1.out.mono ?_
  rintro e w2 ⟨rfl, hP⟩
  have hz := hidden (tk_set h1 hB1.out hBw hP)
  clear kS1
  cases p1
  · have hq : (if false = true then s else x.ver) = x.ver := rfl
    rw [hq] at hz
    clear hP hq
    go_wp2
    go_ret
    exact ⟨rfl, _, _, hz.out.1, hz.out.2, fun y hy => by rw [← hr.out] at hy; simp at hy⟩
  · have hq : (if true = true then s else x.ver) = s := rfl
    rw [hq] at hz
    clear hP hq h1
    have kV := hidden (version_calls (mkB s) w2)
    rw [mk_list, hp2.out] at kV
    go_wp2_with fail
    refine kV.out.mono ?_
    rintro e w3 ⟨rfl, hw3⟩
    subst w3
    go_wp2
    go_ret
    exact ⟨by simp, _, _, hz.out.1, hz.out.2, fun y hy => by rw [← hr.out] at hy; cases p2 <;> simp at hy; exact hy.symm⟩
theorem tk_set4 {B b : Nat} {x : En} {v : Value} {w w2 w' : World} (h2 : ESt B w2 b x v) (hb1 : Below w.heap.size w w2) (hBw : B ≤ w.heap.size) {t : List UInt8} (hP : Put w2 w' b 4 t) : ESt B w' b ⟨x.ver, x.kn, x.ks, x.ex, t⟩ v ∧ Kp B b w w' :=
  ⟨h2.put4 hP, (Kp.below (hb1.mono hBw) (Nat.le_of_lt h2.hb)).trans (Kp.apart hP.ap (Or.inl rfl) (Nat.le_of_lt h2.hb) h2.hs)⟩
set_option maxHeartbeats 4000000 in
theorem take_opt (B b : Nat) (x : En) (v : Value) (w : World) (h : ESt B w b x v) (c : UInt8) (l n s : List UInt8) (hc : c ≠ 35) (hl : l.length < 100000) (hn : (cutSp (c :: l)).1 = n) (hs : (cutSp (c :: l)).2 = s) (hw : n = kwO) :
    Calls Tryz.prog 26 #[.pointer (some ⟨b, 0, none⟩), .string (mkB (c :: l))] w fun e w' => e = .returned (.bool (putT x.op s && optB s)) ∧ TakeEnd B b w w' (if (putT x.op s && optB s) = true then some ⟨x.ver, x.kn, x.ks, x.ex, s⟩ else none) := by
  have kC := hidden (cut_calls (c :: l) w (by simp; omega))
  have hsl := (sp_len (c :: l)).2
  rw [hn, hs] at kC
  rw [hs] at hsl
  have hBw := h.hs
  have hE : (mkB (c :: l)).toList.isEmpty = false := by rw [mk_toList]; rfl
  have hx := first_run c l
  have hy := none_run c hc
  have q1 : ((mkB n).toList == [101, 120, 116, 114, 97]) = false := by rw [mk_toList, hw]; decide
  have q2 : ((mkB n).toList == [107, 101, 114, 110, 101, 108]) = false := by rw [mk_toList, hw]; decide
  have q3 : ((mkB n).toList == [118, 101, 114, 115, 105, 111, 110]) = false := by rw [mk_toList, hw]; decide
  have q4 : ((mkB n).toList == [111, 112, 116, 105, 111, 110, 115]) = true := by rw [mk_toList, hw]; decide
  have kS := hidden (fun (wx : World) (hx : ESt B wx b x v) => set_calls b 4 x.op s wx hx.en.c4 (hx.fz 4) (by simp at hsl; omega))
  obtain ⟨p1, hp1⟩ : ∃ p, putT x.op s = p := ⟨_, rfl⟩
  obtain ⟨p2, hp2⟩ : ∃ p, optB s = p := ⟨_, rfl⟩
  rw [hp1] at kS
  rw [hp1, hp2]
  obtain ⟨r, hr⟩ : ∃ r : Option En, (if (p1 && p2) = true then some ⟨x.ver, x.kn, x.ks, x.ex, s⟩ else none) = r := ⟨_, rfl⟩
  rw [hr]
  replace hr := hidden hr
  replace hp2 := hidden hp2
  replace h := hidden h
  clear hn hs hw hc hl hp1
  go_enter Tryz.func26, Tryz.ntmps26
  go_upto_region 14 with (refine kC.out.mono ?_; rintro e w1 ⟨⟨tt, rfl⟩, hB1⟩; replace hB1 := hidden hB1)
  have h1 := h.out.below hB1.out
  have kS1 := hidden (kS.out _ h1)
  clear kS kC
  go_wp2_with fail
  refine kS1.out.mono ?_
  rintro e w2 ⟨rfl, hP⟩
  have hz := hidden (tk_set4 h1 hB1.out hBw hP)
  clear kS1
  cases p1
  · have hq : (if false = true then s else x.op) = x.op := rfl
    rw [hq] at hz
    clear hP hq
    go_wp2
    go_ret
    exact ⟨rfl, _, _, hz.out.1, hz.out.2, fun y hy => by rw [← hr.out] at hy; simp at hy⟩
  · have hq : (if true = true then s else x.op) = s := rfl
    rw [hq] at hz
    clear hP hq h1
    have kV := hidden (options_calls (mkB s) w2)
    rw [mk_list, hp2.out] at kV
    go_wp2_with fail
    refine kV.out.mono ?_
    rintro e w3 ⟨rfl, hb3⟩
    have hz3 := hidden (And.intro (hz.out.1.below hb3) (hz.out.2.trans (Kp.below (hb3.mono hz.out.1.hs) (Nat.le_of_lt hz.out.1.hb))))
    clear hb3 hz
    go_wp2
    go_ret
    exact ⟨by simp, _, _, hz3.out.1, hz3.out.2, fun y hy => by rw [← hr.out] at hy; cases p2 <;> simp at hy; exact hy.symm⟩
end Go.Proofs.YtfoamhkgdlebdaaGreatDoor
