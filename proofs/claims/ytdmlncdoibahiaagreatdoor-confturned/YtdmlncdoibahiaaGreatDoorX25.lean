/- The walk of ConfTurned. -/
import Derived.Test.YtdmlncdoibahiaaGreatDoorX24
import Derived.Lib.Strings
import Derived.Lib.ConvBytes
namespace Go.Proofs.YtdmlncdoibahiaaGreatDoor
open Go.RowKit Go.Extern.Stop Go.Stop Go.Extern
set_option maxRecDepth 100000

theorem ofB_list (ns : List Int) : (ofBytes ns).data.toList = ns.map fun n => UInt8.ofNat n.toNat := by
  have key : ∀ (ns : List Int) (r : ByteArray), (ns.foldl (fun r n => r.push (UInt8.ofNat n.toNat)) r).data.toList = r.data.toList ++ ns.map fun n => UInt8.ofNat n.toNat := by
    intro ns
    induction ns with
    | nil => intro r; simp
    | cons n l ih => intro r; rw [List.foldl_cons, ih]; simp
  have := key ns ByteArray.empty
  simpa [ofBytes] using this
theorem u8_wrap {z : Nat} (h : z < 256) : IntKind.u8.wrap (z : Int) = z := by
  have h4 : (z : Int) % (2 ^ 8 : Int) = z := by omega
  simp only [IntKind.wrap, IntKind.bits, IntKind.signed, h4]
  simp
theorem xor_bit_range (x y : Int) : 0 ≤ bits .xor .u8 x y ∧ bits .xor .u8 x y ≤ 255 := by
  have h : bits .xor .u8 x y = IntKind.u8.wrap (((BitVec.ofInt 8 x ^^^ BitVec.ofInt 8 y).toNat : Nat) : Int) := rfl
  rw [h, u8_wrap (BitVec.isLt _)]
  have := (BitVec.ofInt 8 x ^^^ BitVec.ofInt 8 y).isLt
  omega
theorem xor_zero (c : Int) (h0 : 0 ≤ c) (h1 : c ≤ 255) : bits .xor .u8 c 0 = c := by
  have h : bits .xor .u8 c 0 = IntKind.u8.wrap (((BitVec.ofInt 8 c ^^^ BitVec.ofInt 8 0).toNat : Nat) : Int) := rfl
  rw [h]
  have e : (BitVec.ofInt 8 c ^^^ BitVec.ofInt 8 0) = BitVec.ofInt 8 c := by
    have : (BitVec.ofInt 8 0) = 0#8 := rfl
    rw [this, BitVec.xor_zero]
  rw [e, BitVec.toNat_ofInt]
  have : (c % ((2 ^ 8 : Nat) : Int)).toNat = c.toNat := by rw [Int.emod_eq_of_lt h0 (by simp; omega)]
  rw [this]
  simp [IntKind.wrap, IntKind.bits, IntKind.signed]
  omega
/-- A text as a row of numbers. -/
def numB (p : List UInt8) : List Int := p.map fun b => (b.toNat : Int)
theorem numB_len (p : List UInt8) : (numB p).length = p.length := by simp [numB]
theorem numB_get (p : List UInt8) (k : Nat) (h : k < p.length) : (numB p).getD k 0 = ((p[k]'h).toNat : Int) := by simp [numB, List.getD, h]
theorem ofB_num (p : List UInt8) : ofBytes (numB p) = mkB p := by
  have h := ofB_list (numB p)
  have e : (numB p).map (fun n => UInt8.ofNat n.toNat) = p := by
    rw [numB, List.map_map]
    conv => rhs; rw [← List.map_id p]
    apply List.map_congr_left
    intro b _
    simp
  rw [e] at h
  rw [← mk_back (ofBytes (numB p)), h]
theorem ofB_mk (zs : List Int) : ofBytes zs = mkB (zs.map fun n => UInt8.ofNat n.toNat) := by
  rw [← mk_back (ofBytes zs), ofB_list]
/-- A text as bytes of one's own. -/
theorem bytes_new (p : List UInt8) (w : World) :
    ∃ cap w', (convert 9 34 (.string (mkB p))).run Tryz.prog w = .ok (.slice (some ⟨w.heap.size, 0, none⟩) p.length cap) w' ∧ p.length ≤ cap ∧ (∀ k, k < p.length → w'.cell? ⟨w.heap.size, k, none⟩ = some (.int .u8 ((numB p).getD k 0))) ∧ (∀ j, j < p.length → w'.frozen? ⟨w.heap.size, j, none⟩ = false) ∧ w.heap.size < w'.heap.size ∧ Below w.heap.size w w' := by
  have hs := mk_size p
  have h := Lib.run_convert_string_bytes (P := Tryz.prog) w 9 34 5 (mkB p) Tryz.underlying9 Tryz.underlying34 Tryz.underlying5
  rw [hs] at h
  refine ⟨_, _, h, grownCap_ge _ _ _ _, fun k hk => ?_, fun j hj => ?_, by rw [Lib.bytesWorld_size]; omega, ⟨rfl, rfl, rfl, by rw [Lib.bytesWorld_size]; omega, fun j hj => Lib.bytesWorld_at_old w _ _ j hj⟩⟩
  · rw [Lib.bytesWorld_cell w _ _ k (by rw [hs]; exact hk), numB_get p k hk]
    simp [mk_list, hk]
  · have hb := Lib.bytesWorld_at_new w 5 (mkB p)
    have hsz : (Lib.bytesCells w 5 (mkB p)).size ≥ p.length := by
      have := grownCap_ge w p.length 0 5
      simp [Lib.bytesCells, hs]
    simp [World.frozen?, hb]
    omega
/-- A text with one byte turned. -/
def turnB (p : List UInt8) (P : Nat) (y : Int) : List UInt8 := ((numB p).set P y).map fun n => UInt8.ofNat n.toNat
theorem turn_len (p : List UInt8) (P : Nat) (y : Int) : (turnB p P y).length = p.length := by simp [turnB, numB]
theorem turn_same (p : List UInt8) (P : Nat) (hP : P < p.length) : turnB p P ((numB p).getD P 0) = p := by
  have e : (numB p).set P ((numB p).getD P 0) = numB p := by
    have hlt : P < (numB p).length := by rw [numB_len]; exact hP
    rw [List.getD, List.getElem?_eq_getElem hlt]
    exact List.set_getElem_self hlt
  rw [turnB, e]
  have := ofB_num p
  rw [ofB_mk] at this
  exact mk_inj this
theorem byte_wf {z : Int} (h : (Lit.int .u8 z).wf = true) : 0 ≤ z ∧ z ≤ 255 := by
  have h1 : IntKind.u8.min = 0 := by decide
  have h2 : IntKind.u8.max = 255 := by decide
  simp only [Lit.wf, Bool.and_eq_true, decide_eq_true_eq, h1, h2] at h
  exact h
set_option maxHeartbeats 8000000 in
theorem confTurned_calls (x : En) (v : Value) (at' c : Int) (w : World) (hc0 : 0 ≤ c ∧ c ≤ 255) (hv : BlobsAt w v x.ex) (hg : GT w) (hG : Ground w) :
    Calls Tryz.prog 4 #[enV x v, .int .i64 at', .int .u8 c] w fun e w' => e = .returned (.bool true) ∧ Below w.heap.size w w' := by
  obtain ⟨a, cap, rfl, -⟩ := (id hv : BlobsAt w v x.ex)
  obtain ⟨w1, hw1, hX⟩ : ∃ w1, w.alloc (.cells #[.string (mkB x.ver), .string (mkB x.kn), .string (mkB x.ks), .slice a x.ex.length cap, .string (mkB x.op)] 26) = w1 ∧ Bx1 w w1 x (.slice a x.ex.length cap) :=
    ⟨_, rfl, ⟨by simp, by simp, by simp, by simp, by simp⟩, (Below.refl _ _).alloc (Nat.le_refl _) _⟩
  have kA := hidden (fun (wx : World) (hx : Bx1 w wx x (.slice a x.ex.length cap)) => awake_calls wx (hg.below hx.bl) (hG.below hx.bl))
  have kS := hidden (fun (wx : World) (hx : Bx1 w wx x (.slice a x.ex.length cap)) => small_calls x _ wx (hv.below hx.bl))
  have kP := hidden (fun (hs : SmallE x) (wx : World) (hx : Bx1 w wx x (.slice a x.ex.length cap)) => refok_calls x _ wx (hv.below hx.bl) (by have := hs.ex; omega))
  have kQ := hidden (fun (ho : OkE x) (wx : World) (hx : Bx1 w wx x (.slice a x.ex.length cap)) => print_good x _ wx (hv.below hx.bl) ((ok_iff x).2 ho) ho.sizes)
  have kU := hidden (fun (y : En) (hy : y.ex.length ≤ 1000000) (u : Value) (wx : World) (hx : Bx1 w wx x (.slice a x.ex.length cap)) (hu : BlobsAt wx u y.ex) => refsame_calls y x u _ wx hu (hv.below hx.bl) hy)
  have kZ := hidden (fun (wx : World) => refsame_calls e0 e0 nilE nilE wx (BlobsAt.nil _ _ _) (BlobsAt.nil _ _ _) (by simp [e0]))
  rw [(sameE_iff e0 e0).2 rfl, enV0] at kZ
  have kB := hidden (fun (s : List UInt8) (k : Nat) (hs : s.length ≤ 2000) (hr : readL (linesB s) 0 e0 = .inl k) (wx : World) (hx : Bx1 w wx x (.slice a x.ex.length cap)) => parse_bad s k wx hs hr (hg.below hx.bl) (hG.below hx.bl))
  have kG := hidden (fun (s : List UInt8) (y : En) (hs : s.length ≤ 2000) (hr : readL (linesB s) 0 e0 = .inr y) (wx : World) => parse_good s y wx hs hr)
  have kO := hidden (fun (y : En) (hy : OkE y) (u : Value) (wx : World) (hu : BlobsAt wx u y.ex) => ok_entry y u wx hu (by have := hy.few; omega))
  have hcx := hidden (fun (wx : World) (h : Bx1 w wx x (.slice a x.ex.length cap)) => And.intro h.x.c0 (And.intro h.x.c1 (And.intro h.x.c2 (And.intro h.x.c3 h.x.c4))))
  have hok := hidden (ok_iff x).1
  generalize okE x = o1 at kP hok
  replace hw1 := hidden hw1
  replace hX := hidden hX
  clear hv hg hG
  unfold enV at *
  go_enter Tryz.func4, Tryz.ntmps4
  go_upto_region 1 with fail
  rw [hw1.out]
  clear hw1
  have kc := hidden (kS.out w1 hX.out)
  obtain ⟨c0, c1, c2, c3, c4⟩ := hcx.out w1 hX.out
  go_wp2_with fail
  refine kc.out.mono ?_
  rintro e w2 ⟨⟨q, rfl, hq⟩, hb⟩
  have hX2 := hidden (hX.out.next hb)
  clear hb kc c0 c1 c2 c3 c4
  cases q
  · clear hq
    have kA2 := hidden (kA.out w2 hX2.out)
    go_wp2_with fail
    refine kA2.out.mono ?_
    rintro e w3 ⟨rfl, hb⟩
    have hX3 := hidden (hX2.out.next hb)
    clear hb
    go_wp2
    go_ret
    exact ⟨rfl, hX3.out.bl⟩
  · have hs : SmallE x := hq rfl
    clear hq
    have kc := hidden (kP.out hs w2 hX2.out)
    obtain ⟨c0, c1, c2, c3, c4⟩ := hcx.out w2 hX2.out
    go_wp2_with fail
    refine kc.out.mono ?_
    rintro e w3 ⟨rfl, hb⟩
    have hX3 := hidden (hX2.out.next hb)
    clear hb kc c0 c1 c2 c3 c4
    cases o1
    · have kA3 := hidden (kA.out w3 hX3.out)
      go_wp2_with fail
      refine kA3.out.mono ?_
      rintro e w4 ⟨rfl, hb⟩
      have hX4 := hidden (hX3.out.next hb)
      clear hb
      go_wp2
      go_ret
      exact ⟨rfl, hX4.out.bl⟩
    · have ho := hok.out rfl
      have kc := hidden (kQ.out ho w3 hX3.out)
      obtain ⟨c0, c1, c2, c3, c4⟩ := hcx.out w3 hX3.out
      go_wp2_with fail
      refine kc.out.mono ?_
      rintro e w4 ⟨rfl, hb⟩
      have hX4 := hidden (hX3.out.next hb)
      clear hb kc c0 c1 c2 c3 c4
      dsimp only
      have hpn : printL x ≠ [] := by simp [printL, headP, lineW]
      have hE : (mkB (printL x)).toList.isEmpty = false := by rw [mk_toList]; cases h : printL x; exact absurd h hpn; rfl
      have hpl := print_len ho
      have hrp := read_print ho
      have hxe : x.ex.length ≤ 1000000 := by have := ho.few; omega
      obtain ⟨p, hp⟩ : ∃ p, printL x = p := ⟨_, rfl⟩
      rw [hp] at hE hpl hpn hrp ⊢
      obtain ⟨cp, w5, hcv, hcap, hcell, hfz, hsz, hb5⟩ := bytes_new p w4
      obtain ⟨n, hn⟩ : ∃ n, p.length = n := ⟨_, rfl⟩
      have hn0 : 0 < n := by rw [← hn]; exact List.length_pos_iff.2 hpn
      rw [hn] at hcv hcap hcell hfz hpl
      have hX5 := hidden (hX4.out.next hb5)
      have hpm := and_low at' 65535 (by decide)
      obtain ⟨P, hP⟩ : ∃ P : Nat, (bits .and .i64 at' 65535).tmod (n : Int) = (P : Int) := ⟨_, (Int.toNat_of_nonneg (Int.tmod_nonneg _ hpm.1)).symm⟩
      have hPk : P < n := by
        have h1 := Int.tmod_lt_of_pos (bits .and .i64 at' 65535) (b := (n : Int)) (by omega)
        omega
      have hPi : (P : Int) < (n : Int) := by omega
      have hkz : ¬ (n : Int) = 0 := by omega
      have hcP := hcell P hPk
      have hfP := hfz P hPk
      have hc1 : 0 ≤ (numB p).getD P 0 ∧ (numB p).getD P 0 ≤ 255 := by rw [numB_get p P (by omega)]; constructor; omega; have := (p[P]'(by omega)).toNat_lt; omega
      obtain ⟨y, hy⟩ : ∃ y, bits .xor .u8 ((numB p).getD P 0) c = y := ⟨_, rfl⟩
      have hyr : 0 ≤ y ∧ y ≤ 255 := by rw [← hy]; exact xor_bit_range _ _
      have hsame := hidden (show c = 0 → turnB p P y = p from fun h => by rw [← hy, h, xor_zero _ hc1.1 hc1.2]; exact turn_same p P (by omega))
      have hBt : BytesAt (w5.setCell ⟨w4.heap.size, P, none⟩ (.int .u8 y)) (.slice (some ⟨w4.heap.size, 0, none⟩) n cp) ((numB p).set P y) := by
        refine ⟨_, cp, by simp [numB_len, hn], fun z hz => ?_, by simp [numB_len]; unfold maxLen; omega, fun h => by (cases h), fun _ => ⟨w4.heap.size, 0, rfl, by simp [World.setCell]; omega, fun k hk => ?_⟩⟩
        · rcases List.mem_or_eq_of_mem_set hz with h | h
          · obtain ⟨b, -, rfl⟩ := List.mem_map.1 h
            have := b.toNat_lt; omega
          · rw [h]; exact hyr
        · rw [Nat.zero_add]
          by_cases e : k = P
          · subst e
            rw [World.cell?_setCell_same' _ _ _ (by rw [hcP]; rfl)]
            have : k < ((numB p).set k y).length := hk
            rw [List.getD, List.getElem?_eq_getElem this]; simp
          · have hk2 : k < n := by simpa [numB_len, hn] using hk
            rw [World.cell?_setCell_other _ _ _ _ (by intro h; injection h; omega), hcell k hk2]
            simp [List.getD, List.getElem?_set_ne (Ne.symm e)]
      have hcv2 := conv_bytes _ _ _ hBt
      rw [ofB_mk] at hcv2
      have htl : (turnB p P y).length ≤ 2000 := by rw [turn_len, hn]; exact hpl
      have etu : (((numB p).set P y).map fun n => UInt8.ofNat n.toNat) = turnB p P y := rfl
      rw [etu] at hcv2
      have hb6 : Below w4.heap.size w5 (w5.setCell ⟨w4.heap.size, P, none⟩ (.int .u8 y)) := (Below.refl _ _).setCell (p := ⟨w4.heap.size, P, none⟩) (Nat.le_refl _) _
      have hX6 := hidden (show Bx1 w (w5.setCell ⟨w4.heap.size, P, none⟩ (.int .u8 y)) x (.slice a x.ex.length cap) from hX4.out.next (hb5.trans hb6))
      obtain ⟨tp, htp⟩ : ∃ tp, turnB p P y = tp := ⟨_, rfl⟩
      rw [htp] at hcv2 hsame htl
      replace hcv := hidden hcv
      replace hp := hidden hp
      generalize (numB p).getD P 0 = z at *
      clear hcell hfz hBt hb5 hb6 etu hX4 hX5 hyr hc1 hpm
      go_upto_region 6 with fail
      have hcv' := hcv.out
      go_upto_region 8 with fail
      generalize w5.setCell ⟨w4.heap.size, P, none⟩ (.int .u8 y) = w6 at hcv2 hX6 ⊢
      clear hcv hcv' hcP hfP hsz hX2 hX3 hP
      obtain ⟨r, hr⟩ : ∃ r, readL (linesB tp) 0 e0 = r := ⟨_, rfl⟩
      cases r with
      | inl k =>
        have kc := hidden (kB.out tp k htl hr w6 hX6.out)
        replace hr := hidden hr
        go_wp2_with fail
        refine kc.out.mono ?_
        rintro e w7 ⟨b, rfl, hEr, hb⟩
        have hX7 := hidden (hX6.out.next hb)
        clear hb kc hcv2 hEr
        dsimp only
        go_upto_region 9 with fail
        obtain ⟨w8, hw8, hb8, hY⟩ : ∃ w8, w7.alloc zEn = w8 ∧ Below w7.heap.size w7 w8 ∧ EnAt w8 w7.heap.size e0 nilE := ⟨_, rfl, (Below.refl _ _).alloc (Nat.le_refl _) _, en_new (one_new _ _)⟩
        have hX8 := hidden (hX7.out.next hb8)
        have e1 : ∀ v : Value, (.cells #[.string (mkB e0.ver), .string (mkB e0.kn), .string (mkB e0.ks), v, .string (mkB e0.op)] 26 : Obj) = .cells #[.string ⟨#[]⟩, .string ⟨#[]⟩, .string ⟨#[]⟩, v, .string ⟨#[]⟩] 26 := fun _ => rfl
        try rw [e1]
        rw [hw8]
        have y0 : w8.cell? ⟨w7.heap.size, 0, none⟩ = some (.string ⟨#[]⟩) := hY.c0
        have y1 : w8.cell? ⟨w7.heap.size, 1, none⟩ = some (.string ⟨#[]⟩) := hY.c1
        have y2 : w8.cell? ⟨w7.heap.size, 2, none⟩ = some (.string ⟨#[]⟩) := hY.c2
        have y3 : w8.cell? ⟨w7.heap.size, 3, none⟩ = some (.slice none 0 0) := hY.c3
        have y4 : w8.cell? ⟨w7.heap.size, 4, none⟩ = some (.string ⟨#[]⟩) := hY.c4
        have kZ8 := hidden (kZ.out w8)
        clear hw8 hb8 hY hX7
        go_wp2_with fail
        refine kZ8.out.mono ?_
        rintro e w9 ⟨rfl, hb⟩
        have hX9 := hidden (hX8.out.next hb)
        clear hb kZ8 y0 y1 y2 y3 y4
        have kA9 := hidden (kA.out w9 hX9.out)
        go_wp2_with fail
        refine kA9.out.mono ?_
        rintro e w10 ⟨rfl, hb⟩
        have hX10 := hidden (hX9.out.next hb)
        clear hb
        go_wp2
        go_ret
        exact ⟨rfl, hX10.out.bl⟩
      | inr yn =>
        have hyo := readL_ok _ _ _ _ pre0 hr
        have hyx : c = 0 → yn = x := fun h => by
          have h1 := hsame.out h
          rw [h1] at hr
          rw [hr] at hrp
          cases hrp; rfl
        have kc := hidden (kG.out tp yn htl hr w6)
        have hyl : yn.ex.length ≤ 1000000 := by have := hyo.few; omega
        have hyk := (ok_iff yn).2 hyo
        replace hr := hidden hr
        replace hyx := hidden hyx
        go_wp2_with fail
        refine kc.out.mono ?_
        rintro e w7 ⟨v7, rfl, hO, hb⟩
        obtain ⟨a7, k7, rfl⟩ := hO.form
        have hX7 := hidden (hX6.out.next hb)
        replace hO := hidden hO
        clear hb kc hcv2
        dsimp only
        go_upto_region 9 with fail
        obtain ⟨w8, hw8, hb8, hY⟩ : ∃ w8, w7.alloc (.cells #[.string (mkB yn.ver), .string (mkB yn.kn), .string (mkB yn.ks), .slice a7 yn.ex.length k7, .string (mkB yn.op)] 26) = w8 ∧ Below w7.heap.size w7 w8 ∧ EnAt w8 w7.heap.size yn (.slice a7 yn.ex.length k7) := ⟨_, rfl, (Below.refl _ _).alloc (Nat.le_refl _) _, ⟨by simp, by simp, by simp, by simp, by simp⟩⟩
        have hX8 := hidden (hX7.out.next hb8)
        have hB8 := hidden ((hO.out.below hb8).at)
        have kO8 := hidden (kO.out yn hyo _ w8 hB8.out)
        rw [hyk] at kO8
        have y0 := hY.c0
        have y1 := hY.c1
        have y2 := hY.c2
        have y3 := hY.c3
        have y4 := hY.c4
        have hY8 := hidden hY
        rw [hw8]
        clear hw8 hb8 hY hO hX7
        go_wp2_with fail
        refine kO8.out.mono ?_
        rintro e w9 ⟨rfl, hb⟩
        have hX9 := hidden (hX8.out.next hb)
        have hB9 := hidden (hB8.out.below hb)
        have hY9 := hidden (hY8.out.below hb)
        clear hb kO8 y0 y1 y2 y3 y4 hX8 hB8 hY8
        by_cases hc : c = 0
        · have hyx' := hyx.out hc
          have kU9 := hidden (kU.out yn hyl _ w9 hX9.out hB9.out)
          rw [(sameE_iff yn x).2 hyx'] at kU9
          clear hyx'
          subst hc
          obtain ⟨c0, c1, c2, c3, c4⟩ := hcx.out w9 hX9.out
          have y0 := hY9.out.c0
          have y1 := hY9.out.c1
          have y2 := hY9.out.c2
          have y3 := hY9.out.c3
          have y4 := hY9.out.c4
          go_wp2_with fail
          refine kU9.out.mono ?_
          rintro e w10 ⟨rfl, hb⟩
          have hX10 := hidden (hX9.out.next hb)
          clear hb kU9 y0 y1 y2 y3 y4 c0 c1 c2 c3 c4
          have kA10 := hidden (kA.out w10 hX10.out)
          go_wp2_with fail
          refine kA10.out.mono ?_
          rintro e w11 ⟨rfl, hb⟩
          have hX11 := hidden (hX10.out.next hb)
          clear hb
          go_wp2
          go_ret
          exact ⟨rfl, hX11.out.bl⟩
        · have kA10 := hidden (kA.out w9 hX9.out)
          go_wp2_with fail
          refine kA10.out.mono ?_
          rintro e w11 ⟨rfl, hb⟩
          have hX11 := hidden (hX9.out.next hb)
          clear hb
          go_wp2
          go_ret
          exact ⟨rfl, hX11.out.bl⟩
end Go.Proofs.YtdmlncdoibahiaaGreatDoor
