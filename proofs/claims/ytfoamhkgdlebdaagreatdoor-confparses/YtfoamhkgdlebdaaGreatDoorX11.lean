/- conf.Parse. -/
import Derived.Test.YtfoamhkgdlebdaaGreatDoorX10
namespace Go.Proofs.YtfoamhkgdlebdaaGreatDoor
open Go.RowKit Go.Extern.Stop Go.Stop Go.Extern
set_option maxRecDepth 100000

abbrev sConf : ByteArray := ⟨#[99, 111, 110, 102]⟩
/-- A Fault of this layer. -/
structure PErr (w : World) (b : Nat) (nm : ByteArray) (i : Value) : Prop where
  bk : w.heap[b]? = some (fcells sConf nm i)
theorem PErr.lt {w : World} {b : Nat} {nm : ByteArray} {i : Value} (h : PErr w b nm i) : b < w.heap.size := by
  rcases Nat.lt_or_ge b w.heap.size with h1 | h1
  · exact h1
  · have := h.bk; rw [Array.getElem?_eq_none h1] at this; cases this
theorem PErr.c0 {w : World} {b : Nat} {nm : ByteArray} {i : Value} (h : PErr w b nm i) : w.cell? ⟨b, 0, none⟩ = some (.string sConf) := by simp [World.cell?, h.bk]
theorem PErr.c1 {w : World} {b : Nat} {nm : ByteArray} {i : Value} (h : PErr w b nm i) : w.cell? ⟨b, 1, none⟩ = some (.string nm) := by simp [World.cell?, h.bk]
theorem PErr.c2 {w : World} {b : Nat} {nm : ByteArray} {i : Value} (h : PErr w b nm i) : w.cell? ⟨b, 2, none⟩ = some i := by simp [World.cell?, h.bk]
theorem PErr.below {w w' : World} {b : Nat} {nm : ByteArray} {i : Value} (h : PErr w b nm i) (hb : Below w.heap.size w w') : PErr w' b nm i := ⟨(hb.block b h.lt).trans h.bk⟩
theorem PErr.chain {w : World} {b : Nat} {nm : ByteArray} {n : Int} (h : PErr w b nm (num n)) : Chain w [(sConf, nm)] (num n) (flt b) :=
  ⟨b, num n, rfl, h.lt, ⟨_, _, h.bk⟩, h.c0, h.c1, h.c2, rfl⟩
abbrev nilE : Value := .slice none 0 0
theorem one_new (w : World) (o : Obj) : (w.alloc o).heap[w.heap.size]? = some o := by
  show (w.heap.push _)[w.heap.size]? = _
  rw [Array.getElem?_push, if_pos rfl]
set_option maxHeartbeats 4000000 in
theorem parse_fail (t : ByteArray) (u : TypeId) (iv : Value) (nm : ByteArray) (w : World)
    (kR : ∀ wx, Calls Tryz.prog 14 #[.string t] wx fun e w' => ∃ (s0 s1 s2 s4 : ByteArray) (a : Option Addr) (n c : Nat), e = .returned (.tuple #[.agg #[.string s0, .string s1, .string s2, .slice a n c, .string s4], .iface u iv]) ∧ Below wx.heap.size wx w')
    (kP : ∀ wx, Below w.heap.size w wx → Calls Tryz.prog 16 #[.iface u iv] wx fun e w' => e = .returned (.string nm) ∧ Below wx.heap.size wx w') :
    Calls Tryz.prog 7 #[.string t] w fun e w' => ∃ b, e = .returned (.tuple #[enV e0 nilE, flt b]) ∧ PErr w' b nm (.iface u iv) ∧ Below w.heap.size w w' := by
  rw [enV0]
  replace kR := hidden kR
  replace kP := hidden kP
  have hB0 : Below w.heap.size w (w.alloc (.cells #[.string ⟨#[]⟩, .string ⟨#[]⟩, .string ⟨#[]⟩, .slice none 0 0, .string ⟨#[]⟩] 29)) := (Below.refl _ _).alloc (Nat.le_refl _) _
  obtain ⟨w1, hw1, hN, hf⟩ : ∃ w1, w.alloc (.cells #[.string ⟨#[]⟩, .string ⟨#[]⟩, .string ⟨#[]⟩, .slice none 0 0, .string ⟨#[]⟩] 29) = w1 ∧ EnAt w1 w.heap.size e0 nilE ∧ (∀ j, w1.frozen? ⟨w.heap.size, j, none⟩ = false) :=
    ⟨_, rfl, en_new (one_new _ _), frozen_new (one_new _ _)⟩
  rw [hw1] at hB0
  have hl1 : w.heap.size < w1.heap.size := hN.lt
  replace hw1 := hidden hw1
  go_enter Tryz.func7, Tryz.ntmps7
  go_upto_region 1 with fail
  rw [hw1.out]
  clear hw1
  go_wp2_with fail
  refine (kR.out w1).mono ?_
  rintro e w2 ⟨s0, s1, s2, s4, a, n, c, rfl, hb2⟩
  replace hb2 := hidden hb2
  dsimp only
  go_upto_region 2 with fail
  have hN2 := hN.below hb2.out
  have hf2 : ∀ j, w2.frozen? ⟨w.heap.size, j, none⟩ = false := fun j => (hb2.out.frozen (p := ⟨w.heap.size, j, none⟩) hl1).trans (hf j)
  have hB2 := hB0.trans (hb2.out.mono hB0.size)
  obtain ⟨w3, hw3, hb3⟩ : ∃ w3, w2.alloc (.cells #[.string s0, .string s1, .string s2, .slice a n c, .string s4] 29) = w3 ∧ Below w2.heap.size w2 w3 := ⟨_, rfl, (Below.refl _ _).alloc (Nat.le_refl _) _⟩
  have hN3 := hN2.below hb3
  have hf3 : ∀ j, w3.frozen? ⟨w.heap.size, j, none⟩ = false := fun j => (hb3.frozen (p := ⟨w.heap.size, j, none⟩) hN2.lt).trans (hf2 j)
  have hB3 := hB2.trans (hb3.mono hB2.size)
  have kP3 := hidden (kP.out w3 hB3)
  rw [hw3]
  replace hN3 := hidden hN3
  replace hf3 := hidden hf3
  replace hB3 := hidden hB3
  clear hN hf hN2 hf2 hb2 hb3 hB0 hB2 kR kP hw3
  go_upto_region 3 with fail
  go_wp2_with fail
  refine kP3.out.mono ?_
  rintro e w4 ⟨rfl, hb4⟩
  have hN4 := hN3.out.below hb4
  have hf4 : ∀ j, w4.frozen? ⟨w.heap.size, j, none⟩ = false := fun j => (hb4.frozen (p := ⟨w.heap.size, j, none⟩) hN3.out.lt).trans (hf3.out j)
  have hB4 := hB3.out.trans (hb4.mono hB3.out.size)
  clear hN3 hf3 hB3 kP3 hb4
  obtain ⟨w5, hw5, hb5, hE⟩ : ∃ w5, w4.alloc (fcells sConf nm (.iface u iv)) = w5 ∧ Below w4.heap.size w4 w5 ∧ PErr w5 w4.heap.size nm (.iface u iv) := ⟨_, rfl, (Below.refl _ _).alloc (Nat.le_refl _) _, ⟨one_new _ _⟩⟩
  have hN5 := hN4.below hb5
  have hf5 : ∀ j, w5.frozen? ⟨w.heap.size, j, none⟩ = false := fun j => (hb5.frozen (p := ⟨w.heap.size, j, none⟩) hN4.lt).trans (hf4 j)
  have hB5 := hB4.trans (hb5.mono hB4.size)
  have r0 : w5.cell? ⟨w.heap.size, 0, none⟩ = some (.string ⟨#[]⟩) := hN5.c0
  have r1 : w5.cell? ⟨w.heap.size, 1, none⟩ = some (.string ⟨#[]⟩) := hN5.c1
  have r2 : w5.cell? ⟨w.heap.size, 2, none⟩ = some (.string ⟨#[]⟩) := hN5.c2
  have r3 : w5.cell? ⟨w.heap.size, 3, none⟩ = some (.slice none 0 0) := hN5.c3
  have r4 : w5.cell? ⟨w.heap.size, 4, none⟩ = some (.string ⟨#[]⟩) := hN5.c4
  have hfin := hidden (show EnAt (set5 w5 w.heap.size e0 nilE) w.heap.size e0 nilE ∧ PErr (set5 w5 w.heap.size e0 nilE) w4.heap.size nm (.iface u iv) ∧ Below w.heap.size w (set5 w5 w.heap.size e0 nilE) from
    ⟨set5_at hN5 _ _, ⟨((set5_apart w5 w.heap.size e0 nilE).block _ hE.lt (by have := hN4.lt; simp; omega)).trans hE.bk⟩, hB5.trans ((set5_apart _ _ _ _).below (by simp) hB5.size)⟩)
  clear hN4 hf4 hb5 hB4 hN5 hE hB5
  go_wp2_with fail
  refine (wrap_some sConf nm _ _ w4).mono ?_
  rintro e w' ⟨rfl, rfl⟩
  rw [hw5]
  clear hw5
  go_wp2
  (try simp only [Exit.inBlock, Exit.then])
  refine bodyPost_ret (ret_en (x := e0) (v := nilE) rfl rfl hfin.out.1) rfl ?_
  exact ⟨_, rfl, hfin.out.2.1, hfin.out.2.2⟩
theorem enV_ex {t : ByteArray} {iv : Value} {w : World} (h : Calls Tryz.prog 14 #[.string t] w fun e w' => ∃ (x : En) (a : Option Addr) (n c : Nat), e = .returned (.tuple #[enV x (.slice a n c), iv]) ∧ Below w.heap.size w w') :
    Calls Tryz.prog 14 #[.string t] w fun e w' => ∃ (s0 s1 s2 s4 : ByteArray) (a : Option Addr) (n c : Nat), e = .returned (.tuple #[.agg #[.string s0, .string s1, .string s2, .slice a n c, .string s4], iv]) ∧ Below w.heap.size w w' :=
  h.mono fun _ _ ⟨_, a, n, c, he, hb⟩ => ⟨_, _, _, _, a, n, c, he, hb⟩
theorem parse_long (s : List UInt8) (w : World) (hs : 2000 < s.length) (hg : GT w) :
    Calls Tryz.prog 7 #[.string (mkB s)] w fun e w' => ∃ b, e = .returned (.tuple #[enV e0 nilE, flt b]) ∧ PErr w' b ⟨#[]⟩ (num 2) ∧ Below w.heap.size w w' :=
  parse_fail (mkB s) _ _ ⟨#[]⟩ w (fun wx => enV_ex ((read_long s wx hs).mono fun _ _ ⟨he, hb⟩ => ⟨e0, none, 0, 0, he, hb⟩)) (fun wx hx => place_num 2 wx (hg.below hx))
theorem parse_bad (s : List UInt8) (k : Nat) (w : World) (hs : s.length ≤ 2000) (hr : readL (linesB s) 0 e0 = .inl k) (hg : GT w) (hG : Ground w) :
    Calls Tryz.prog 7 #[.string (mkB s)] w fun e w' => ∃ b, e = .returned (.tuple #[enV e0 nilE, flt b]) ∧ PErr w' b (itoaB k) (lnE k) ∧ Below w.heap.size w w' :=
  parse_fail (mkB s) _ _ (itoaB k) w (fun wx => enV_ex ((read_calls s wx hs).mono fun _ _ h => by rw [hr] at h; exact h))
    (fun wx hx => place_wrong k wx (by have h1 := readL_bound _ _ _ _ hr; have h2 := lines_len s; omega) (hg.below hx) (hG.below hx))
set_option maxHeartbeats 4000000 in
theorem parse_good (s : List UInt8) (x : En) (w : World) (hs : s.length ≤ 2000) (hr : readL (linesB s) 0 e0 = .inr x) :
    Calls Tryz.prog 7 #[.string (mkB s)] w fun e w' => ∃ v, e = .returned (.tuple #[enV x v, .nilIface]) ∧ BlOwn w.heap.size w' v x.ex ∧ Below w.heap.size w w' := by
  have kR := hidden (fun wx => (read_calls s wx hs).mono fun _ _ h => by rw [hr] at h; exact h)
  have hB0 : Below w.heap.size w (w.alloc (.cells #[.string ⟨#[]⟩, .string ⟨#[]⟩, .string ⟨#[]⟩, .slice none 0 0, .string ⟨#[]⟩] 29)) := (Below.refl _ _).alloc (Nat.le_refl _) _
  obtain ⟨w1, hw1, hN, hf⟩ : ∃ w1, w.alloc (.cells #[.string ⟨#[]⟩, .string ⟨#[]⟩, .string ⟨#[]⟩, .slice none 0 0, .string ⟨#[]⟩] 29) = w1 ∧ EnAt w1 w.heap.size e0 nilE ∧ (∀ j, w1.frozen? ⟨w.heap.size, j, none⟩ = false) :=
    ⟨_, rfl, en_new (one_new _ _), frozen_new (one_new _ _)⟩
  rw [hw1] at hB0
  have hl1 : w.heap.size < w1.heap.size := hN.lt
  replace hw1 := hidden hw1
  clear hs hr
  generalize mkB s = t at *
  go_enter Tryz.func7, Tryz.ntmps7
  go_upto_region 1 with fail
  rw [hw1.out]
  clear hw1
  go_wp2_with fail
  refine (kR.out w1).mono ?_
  rintro e w2 ⟨v, rfl, hO, hb2⟩
  obtain ⟨a, c, rfl⟩ := hO.form
  replace hb2 := hidden hb2
  replace hO := hidden hO
  dsimp only
  unfold enV
  go_upto_region 2 with fail
  have hN2 := hN.below hb2.out
  have hf2 : ∀ j, w2.frozen? ⟨w.heap.size, j, none⟩ = false := fun j => (hb2.out.frozen (p := ⟨w.heap.size, j, none⟩) hl1).trans (hf j)
  have hB2 := hB0.trans (hb2.out.mono hB0.size)
  obtain ⟨w3, hw3, hb3, hX⟩ : ∃ w3, w2.alloc (.cells #[.string (mkB x.ver), .string (mkB x.kn), .string (mkB x.ks), .slice a x.ex.length c, .string (mkB x.op)] 29) = w3 ∧ Below w2.heap.size w2 w3 ∧ EnAt w3 w2.heap.size x (.slice a x.ex.length c) := ⟨_, rfl, (Below.refl _ _).alloc (Nat.le_refl _) _, ⟨by simp, by simp, by simp, by simp, by simp⟩⟩
  have hN3 := hN2.below hb3
  have hf3 : ∀ j, w3.frozen? ⟨w.heap.size, j, none⟩ = false := fun j => (hb3.frozen (p := ⟨w.heap.size, j, none⟩) hN2.lt).trans (hf2 j)
  have hB3 := hB2.trans (hb3.mono hB2.size)
  rw [hw3]
  have q0 := hX.c0
  have q1 := hX.c1
  have q2 := hX.c2
  have q3 := hX.c3
  have q4 := hX.c4
  have r0 : w3.cell? ⟨w.heap.size, 0, none⟩ = some (.string ⟨#[]⟩) := hN3.c0
  have r1 : w3.cell? ⟨w.heap.size, 1, none⟩ = some (.string ⟨#[]⟩) := hN3.c1
  have r2 : w3.cell? ⟨w.heap.size, 2, none⟩ = some (.string ⟨#[]⟩) := hN3.c2
  have r3 : w3.cell? ⟨w.heap.size, 3, none⟩ = some (.slice none 0 0) := hN3.c3
  have r4 : w3.cell? ⟨w.heap.size, 4, none⟩ = some (.string ⟨#[]⟩) := hN3.c4
  have hfin := hidden (en_end (w := w) (b := w.heap.size) (B := w.heap.size + 1) (x := x) (v := .slice a x.ex.length c) hN3 ((hO.out.below hb3).mono (by have := hN.lt; omega)) (Nat.lt_succ_self _) hB3 (Nat.le_refl _))
  clear hN hf hN2 hf2 hb2 hb3 hB0 hB2 hw3 kR hN3 hB3 hX hO
  go_wp2
  (try simp only [Exit.inBlock, Exit.then])
  refine bodyPost_ret (ret_en (x := x) (v := .slice a x.ex.length c) rfl rfl hfin.out.1) rfl ?_
  exact ⟨_, rfl, hfin.out.2.1.mono (Nat.le_succ _), hfin.out.2.2⟩
end Go.Proofs.YtfoamhkgdlebdaaGreatDoor
