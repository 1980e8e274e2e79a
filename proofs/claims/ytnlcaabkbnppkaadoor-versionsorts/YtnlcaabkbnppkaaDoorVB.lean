/- The document's own Tokens. -/
import Derived.Test.YtnlcaabkbnppkaaDoorVB0
namespace Go.Proofs.YtnlcaabkbnppkaaDoor
open Go Go.RowKit
set_option maxRecDepth 100000

theorem u8_48 (d : UInt8) (h : (d == 48) = true) : (d.toNat : Int) = 48 := by
  have hd : d = 48 := by simpa using h
  rw [hd]; rfl
theorem u8_48' (d : UInt8) (h : (d.toNat : Int) = 48) : (d == 48) = true := by
  have hd : d = 48 := UInt8.toNat_inj.1 (by show d.toNat = 48; omega)
  simp [hd]
theorem rcl_inj {c d : UInt8} (h : rclZ d = rclZ c) : clsB d = clsB c := by
  unfold rclZ at h
  have h1 := cls_cases c
  have h2 := cls_cases d
  split at h <;> split at h <;> omega
set_option maxHeartbeats 16000000 in
theorem rtokens_calls (x : List UInt8) (w : World) (hx : x.length ≤ 900) : Calls Tryd.prog 18 #[.string (mkB x)] w fun e w' => (∃ v, e = .returned v ∧ TkOwn w.heap.size w' v (toksB x)) ∧ Below w.heap.size w w' := by
  have hml := hidden (Nat.le_trans (toks_len x.length x (Nat.le_refl _)) hx)
  have hz := mk_size x
  go_enter Tryd.func18, Tryd.ntmps18
  go_wp2_with fail
  go_loopg [3, 4] x.length (fun g sv si wr => ∃ (v : Value) (i : Nat) (L : List Tok), sv = v ∧ si = .int .i64 (i : Int) ∧ i ≤ x.length ∧ g = x.length - i ∧ Hid (TkOwn w.heap.size wr v L ∧ L ++ toksB (x.drop i) = toksB x ∧ Below w.heap.size w wr))
  case atStart => exact ⟨_, 0, [], rfl, rfl, Nat.zero_le _, rfl, hidden ⟨TkOwn.nil _ _, rfl, Below.refl _ _⟩⟩
  case round =>
    obtain ⟨v, i, L, hv0, rfl, hi, hg, hI⟩ := hrel
    subst hv0
    have hO := hidden hI.out.1
    have hC := hidden hI.out.2.1
    have hB := hidden hI.out.2.2
    obtain ⟨av, cv, hvf⟩ := hO.out.form
    generalize hLL : L.length = LL at hvf
    subst hvf
    replace hLL := hidden hLL
    replace hg := hidden hg
    clear hI
    by_cases hlt : i < x.length
    · have hlt' : (i : Int) < (x.length : Int) := by omega
      have h0 : i < (mkB x).size := by rw [mk_size]; exact hlt
      have hgc := mk_get x i hlt h0
      obtain ⟨c, hcx⟩ : ∃ c, x[i]'hlt = c := ⟨_, rfl⟩
      rw [hcx] at hgc
      have hxc := hidden (show x[i]? = some c by rw [← hcx]; exact List.getElem?_eq_getElem hlt)
      have hdr : x.drop i = c :: x.drop (i + 1) := by rw [List.drop_eq_getElem_cons hlt, hcx]
      have hst := step_toks c (x.drop (i + 1))
      have hsl := step_le (x.drop i)
      have hsq := step_pos c (x.drop (i + 1))
      rw [← hdr] at hst hsq
      rw [List.length_drop] at hsl
      rw [List.drop_drop] at hst
      have hex := extract_mk x i (i + stepN (x.drop i))
      rw [List.drop_take] at hex
      rw [show i + stepN (x.drop i) - i = stepN (x.drop i) by omega] at hex
      have kC := hidden (fun w => rclass_calls c w)
      obtain ⟨N, hN⟩ : ∃ N, stepN (x.drop i) = N := ⟨_, rfl⟩
      obtain ⟨T, hT⟩ : ∃ T, (stripT (clsB c, (x.drop i).take N)).2 = T := ⟨_, rfl⟩
      obtain ⟨kz, hkz⟩ : ∃ kz, rclZ c = kz := ⟨_, rfl⟩
      have hcl := hidden (fun (d : UInt8) (h : rclZ d = kz) => rcl_inj (h.trans hkz.symm))
      have hcn := hidden (fun (d : UInt8) (h : ¬ rclZ d = kz) => (show ¬ clsB d = clsB c from fun e => h (by rw [← hkz, rclZ, rclZ, e])))
      rw [hN] at hst hsl hsq hex
      rw [hkz] at kC
      have hsp := hidden hst
      have hNb := hidden (show 1 ≤ N ∧ i + N ≤ x.length from ⟨hsq, by omega⟩)
      have hN1 := hidden (fun (h : clsB c < 2) => (show N = 1 by rw [← hN]; exact step_one x i c hxc.out (by omega)))
      have b1 : (0 : Int) ≤ (i : Int) := by omega
      have b2 : (i : Int) ≤ (i : Int) + (N : Int) := by omega
      have b3 : (i : Int) + (N : Int) ≤ (x.length : Int) := by omega
      replace hN := hidden hN
      replace hT := hidden hT
      replace hkz := hidden hkz
      replace hcx := hidden hcx
      clear hdr hst hsl hsq
      go_wp2_with fail
      refine (kC.out _).mono ?_
      rintro e w1 ⟨rfl, hw1⟩
      subst w1
      rcases cls_cases c with hk | hk | hk | hk
      · -- kind 0
        obtain rfl : kz = 0 := by rw [← hkz.out, rclZ, hk]; rfl
        go_upto_block 2 with fail
        go_cut [6] from 16 to 41 (fun nv wx => nv = .int .i64 (N : Int) ∧ wx = wr)
        case first =>
          go_wp2_with fail
          go_loopg [6] (x.length - 1) (fun g nv wq => ∃ n : Nat, nv = .int .i64 (n : Int) ∧ 1 ≤ n ∧ i + n ≤ x.length ∧ g = x.length - n ∧ wq = wr ∧ Hid ((clsB c < 2 → n = 1) ∧ (2 ≤ clsB c → N = n + ((x.drop (i + n)).takeWhile (fun e => clsB e == clsB c)).length)))
          case atStart => exact ⟨1, rfl, by omega, by omega, rfl, rfl, hidden ⟨fun _ => rfl, fun _ => by rw [← hN.out]; exact step_more x i c hxc.out (by omega)⟩⟩
          case round =>
            obtain ⟨n, rfl, hn1, hin, hgn, rfl, hinv⟩ := hrel
            have hn : n = 1 := hinv.out.1 (by omega)
            subst hn
            go_wp2
            go_meet
            case rel => exact ⟨by rw [hN1.out (by omega)]; rfl, rfl⟩
        case rest =>
          obtain ⟨rfl, hwz⟩ := hcut
          replace hwz := hwz.symm
          subst hwz
          clear kC
          go_upto_block 4 with fail
          rw [hex]
          go_cut [7] from 48 to 61 (fun tv wx => tv = .string (mkB T) ∧ wx = wr)
          case first =>
            go_wp2_with fail
            go_loopg [7] ((x.drop i).take N).length (fun g tv wq => ∃ t : List UInt8, tv = .string (mkB t) ∧ g = t.length ∧ wq = wr ∧ Hid ((clsB c ≠ 3 → t = T) ∧ (clsB c = 3 → T = t.dropWhile (· == 48))))
            case atStart => exact ⟨(x.drop i).take N, rfl, rfl, rfl, hidden ⟨fun h => by rw [← hT.out, stripT, if_neg h], fun h => by rw [← hT.out, stripT, if_pos h]⟩⟩
            case round =>
              obtain ⟨t, rfl, ht, rfl, htl⟩ := hrel
              go_wp2
              go_meet
              case rel => exact ⟨by rw [htl.out.1 (by omega)], rfl⟩
          case rest =>
            obtain ⟨rfl, hwz⟩ := hcut
            replace hwz := hwz.symm
            subst hwz
            have hTk := hidden (show (L ++ [((0, T) : Tok)]) ++ toksB (x.drop (i + N)) = toksB x by
              have h1 := hC.out
              rw [hsp.out, stepT, if_neg (by omega), ← List.append_assoc] at h1
              rw [← h1, ← hT.out, hN.out, hk]; rfl)
            have hLl : L.length ≤ 900 := by
              have h1 := congrArg List.length hTk.out
              rw [List.length_append, List.length_append] at h1
              have := hml.out; omega
            have hal : Below wr.heap.size wr (wr.alloc (Obj.cells #[Value.int .i64 0, Value.string (mkB T)] 32)) := (Below.refl _ _).alloc (Nat.le_refl _) _
            obtain ⟨v2, w2, h1, h2, h3, -⟩ := (hO.out.below hal).push (ST := 37) Tryd.underlying37 infoTk (0, T) ⟨wr.heap.size, 0, none⟩ 1 (by simp) (by simp [Addr.add]) (by omega) (by have := hB.out.size; have := hal.size; omega) 37
            have hB2 := hidden (hB.out.trans ((hal.mono hB.out.size).trans h3))
            replace h1 := hidden h1
            replace h2 := hidden h2
            clear hal h3
            go_wp2_with (at_builtin; refine wpList_append_eq _ _ 37 rfl _ _ v2 w2 rfl rfl h1.out rfl ?_)
            go_roundg (x.length - (i + N))
            case measure => have := hg.out; have := hNb.out; omega
            case rel => exact ⟨_, i + N, _, rfl, by go_num, by have := hNb.out; omega, rfl, hidden ⟨h2.out, hTk.out, hB2.out⟩⟩
      · -- kind 1
        obtain rfl : kz = (-1) := by rw [← hkz.out, rclZ, hk]; rfl
        go_upto_block 2 with fail
        go_cut [6] from 16 to 41 (fun nv wx => nv = .int .i64 (N : Int) ∧ wx = wr)
        case first =>
          go_wp2_with fail
          go_loopg [6] (x.length - 1) (fun g nv wq => ∃ n : Nat, nv = .int .i64 (n : Int) ∧ 1 ≤ n ∧ i + n ≤ x.length ∧ g = x.length - n ∧ wq = wr ∧ Hid ((clsB c < 2 → n = 1) ∧ (2 ≤ clsB c → N = n + ((x.drop (i + n)).takeWhile (fun e => clsB e == clsB c)).length)))
          case atStart => exact ⟨1, rfl, by omega, by omega, rfl, rfl, hidden ⟨fun _ => rfl, fun _ => by rw [← hN.out]; exact step_more x i c hxc.out (by omega)⟩⟩
          case round =>
            obtain ⟨n, rfl, hn1, hin, hgn, rfl, hinv⟩ := hrel
            have hn : n = 1 := hinv.out.1 (by omega)
            subst hn
            go_wp2
            go_meet
            case rel => exact ⟨by rw [hN1.out (by omega)]; rfl, rfl⟩
        case rest =>
          obtain ⟨rfl, hwz⟩ := hcut
          replace hwz := hwz.symm
          subst hwz
          clear kC
          go_upto_block 4 with fail
          rw [hex]
          go_cut [7] from 48 to 61 (fun tv wx => tv = .string (mkB T) ∧ wx = wr)
          case first =>
            go_wp2_with fail
            go_loopg [7] ((x.drop i).take N).length (fun g tv wq => ∃ t : List UInt8, tv = .string (mkB t) ∧ g = t.length ∧ wq = wr ∧ Hid ((clsB c ≠ 3 → t = T) ∧ (clsB c = 3 → T = t.dropWhile (· == 48))))
            case atStart => exact ⟨(x.drop i).take N, rfl, rfl, rfl, hidden ⟨fun h => by rw [← hT.out, stripT, if_neg h], fun h => by rw [← hT.out, stripT, if_pos h]⟩⟩
            case round =>
              obtain ⟨t, rfl, ht, rfl, htl⟩ := hrel
              go_wp2
              go_meet
              case rel => exact ⟨by rw [htl.out.1 (by omega)], rfl⟩
          case rest =>
            obtain ⟨rfl, hwz⟩ := hcut
            replace hwz := hwz.symm
            subst hwz
            have hTk := hidden (show L ++ toksB (x.drop (i + N)) = toksB x by
              have h1 := hC.out
              rw [hsp.out, stepT, if_pos hk, List.nil_append] at h1
              exact h1)
            go_wp2
            go_roundg (x.length - (i + N))
            case measure => have := hg.out; have := hNb.out; omega
            case rel => exact ⟨_, i + N, L, rfl, by go_num, by have := hNb.out; omega, rfl, hidden ⟨hO.out, hTk.out, hB.out⟩⟩
      · -- kind 2
        obtain rfl : kz = 2 := by rw [← hkz.out, rclZ, hk]; rfl
        go_upto_block 2 with fail
        go_cut [6] from 16 to 41 (fun nv wx => nv = .int .i64 (N : Int) ∧ wx = wr)
        case first =>
          go_wp2_with fail
          go_loopg [6] (x.length - 1) (fun g nv wq => ∃ n : Nat, nv = .int .i64 (n : Int) ∧ 1 ≤ n ∧ i + n ≤ x.length ∧ g = x.length - n ∧ wq = wr ∧ Hid ((clsB c < 2 → n = 1) ∧ (2 ≤ clsB c → N = n + ((x.drop (i + n)).takeWhile (fun e => clsB e == clsB c)).length)))
          case atStart => exact ⟨1, rfl, by omega, by omega, rfl, rfl, hidden ⟨fun _ => rfl, fun _ => by rw [← hN.out]; exact step_more x i c hxc.out (by omega)⟩⟩
          case round =>
            obtain ⟨n, rfl, hn1, hin, hgn, rfl, hinv⟩ := hrel
            replace hgn := hidden hgn
            by_cases hlt2 : i + n < x.length
            · have hlt2' : (i : Int) + (n : Int) < (x.length : Int) := by omega
              have h02 : i + n < (mkB x).size := by rw [mk_size]; exact hlt2
              have hg2 := mk_get x (i + n) hlt2 h02
              obtain ⟨d, hd⟩ : ∃ d, x[i + n]'hlt2 = d := ⟨_, rfl⟩
              rw [hd] at hg2
              have hnx := hidden (take_while_succ (fun e => clsB e == clsB c) x (i + n) d (by rw [← hd]; exact List.getElem?_eq_getElem hlt2))
              have kD := hidden (fun w => rclass_calls d w)
              replace hinv := hidden hinv
              replace hd := hidden hd
              go_wp2_with fail
              refine (kD.out _).mono ?_
              rintro e w2 ⟨rfl, hw2⟩
              subst w2
              by_cases heq : rclZ d = 2
              · have hcd := hidden (hcl.out d heq)
                go_wp2
                go_roundg (x.length - (n + 1))
                case measure => have := hgn.out; omega
                case rel =>
                  refine ⟨n + 1, by go_num, by omega, by omega, rfl, rfl, hidden ⟨fun h => absurd h (by omega), fun h => ?_⟩⟩
                  have q1 := hinv.out.out.2 h
                  have q2 := hnx.out
                  rw [if_pos (by rw [hcd.out]; simp)] at q2
                  rw [q1, q2, List.length_cons, show i + (n + 1) = i + n + 1 by omega]; omega
              · have hcd := hidden (hcn.out d heq)
                go_wp2
                go_meet
                case rel =>
                  refine ⟨?_, rfl⟩
                  have q1 := hinv.out.out.2 (by omega)
                  have q2 := hnx.out
                  rw [if_neg (by simpa using hcd.out)] at q2
                  rw [q1, q2]; simp
            · have hlt2' : ¬ (i : Int) + (n : Int) < (x.length : Int) := by omega
              go_wp2
              go_meet
              case rel =>
                refine ⟨?_, rfl⟩
                have q1 := hinv.out.2 (by omega)
                rw [List.drop_eq_nil_of_le (by omega)] at q1
                rw [q1]; simp
        case rest =>
          obtain ⟨rfl, hwz⟩ := hcut
          replace hwz := hwz.symm
          subst hwz
          clear kC
          go_upto_block 4 with fail
          rw [hex]
          go_cut [7] from 48 to 61 (fun tv wx => tv = .string (mkB T) ∧ wx = wr)
          case first =>
            go_wp2_with fail
            go_loopg [7] ((x.drop i).take N).length (fun g tv wq => ∃ t : List UInt8, tv = .string (mkB t) ∧ g = t.length ∧ wq = wr ∧ Hid ((clsB c ≠ 3 → t = T) ∧ (clsB c = 3 → T = t.dropWhile (· == 48))))
            case atStart => exact ⟨(x.drop i).take N, rfl, rfl, rfl, hidden ⟨fun h => by rw [← hT.out, stripT, if_neg h], fun h => by rw [← hT.out, stripT, if_pos h]⟩⟩
            case round =>
              obtain ⟨t, rfl, ht, rfl, htl⟩ := hrel
              go_wp2
              go_meet
              case rel => exact ⟨by rw [htl.out.1 (by omega)], rfl⟩
          case rest =>
            obtain ⟨rfl, hwz⟩ := hcut
            replace hwz := hwz.symm
            subst hwz
            have hTk := hidden (show (L ++ [((2, T) : Tok)]) ++ toksB (x.drop (i + N)) = toksB x by
              have h1 := hC.out
              rw [hsp.out, stepT, if_neg (by omega), ← List.append_assoc] at h1
              rw [← h1, ← hT.out, hN.out, hk]; rfl)
            have hLl : L.length ≤ 900 := by
              have h1 := congrArg List.length hTk.out
              rw [List.length_append, List.length_append] at h1
              have := hml.out; omega
            have hal : Below wr.heap.size wr (wr.alloc (Obj.cells #[Value.int .i64 2, Value.string (mkB T)] 32)) := (Below.refl _ _).alloc (Nat.le_refl _) _
            obtain ⟨v2, w2, h1, h2, h3, -⟩ := (hO.out.below hal).push (ST := 37) Tryd.underlying37 infoTk (2, T) ⟨wr.heap.size, 0, none⟩ 1 (by simp) (by simp [Addr.add]) (by omega) (by have := hB.out.size; have := hal.size; omega) 37
            have hB2 := hidden (hB.out.trans ((hal.mono hB.out.size).trans h3))
            replace h1 := hidden h1
            replace h2 := hidden h2
            clear hal h3
            go_wp2_with (at_builtin; refine wpList_append_eq _ _ 37 rfl _ _ v2 w2 rfl rfl h1.out rfl ?_)
            go_roundg (x.length - (i + N))
            case measure => have := hg.out; have := hNb.out; omega
            case rel => exact ⟨_, i + N, _, rfl, by go_num, by have := hNb.out; omega, rfl, hidden ⟨h2.out, hTk.out, hB2.out⟩⟩
      · -- kind 3
        obtain rfl : kz = 3 := by rw [← hkz.out, rclZ, hk]; rfl
        go_upto_block 2 with fail
        go_cut [6] from 16 to 41 (fun nv wx => nv = .int .i64 (N : Int) ∧ wx = wr)
        case first =>
          go_wp2_with fail
          go_loopg [6] (x.length - 1) (fun g nv wq => ∃ n : Nat, nv = .int .i64 (n : Int) ∧ 1 ≤ n ∧ i + n ≤ x.length ∧ g = x.length - n ∧ wq = wr ∧ Hid ((clsB c < 2 → n = 1) ∧ (2 ≤ clsB c → N = n + ((x.drop (i + n)).takeWhile (fun e => clsB e == clsB c)).length)))
          case atStart => exact ⟨1, rfl, by omega, by omega, rfl, rfl, hidden ⟨fun _ => rfl, fun _ => by rw [← hN.out]; exact step_more x i c hxc.out (by omega)⟩⟩
          case round =>
            obtain ⟨n, rfl, hn1, hin, hgn, rfl, hinv⟩ := hrel
            replace hgn := hidden hgn
            by_cases hlt2 : i + n < x.length
            · have hlt2' : (i : Int) + (n : Int) < (x.length : Int) := by omega
              have h02 : i + n < (mkB x).size := by rw [mk_size]; exact hlt2
              have hg2 := mk_get x (i + n) hlt2 h02
              obtain ⟨d, hd⟩ : ∃ d, x[i + n]'hlt2 = d := ⟨_, rfl⟩
              rw [hd] at hg2
              have hnx := hidden (take_while_succ (fun e => clsB e == clsB c) x (i + n) d (by rw [← hd]; exact List.getElem?_eq_getElem hlt2))
              have kD := hidden (fun w => rclass_calls d w)
              replace hinv := hidden hinv
              replace hd := hidden hd
              go_wp2_with fail
              refine (kD.out _).mono ?_
              rintro e w2 ⟨rfl, hw2⟩
              subst w2
              by_cases heq : rclZ d = 3
              · have hcd := hidden (hcl.out d heq)
                go_wp2
                go_roundg (x.length - (n + 1))
                case measure => have := hgn.out; omega
                case rel =>
                  refine ⟨n + 1, by go_num, by omega, by omega, rfl, rfl, hidden ⟨fun h => absurd h (by omega), fun h => ?_⟩⟩
                  have q1 := hinv.out.out.2 h
                  have q2 := hnx.out
                  rw [if_pos (by rw [hcd.out]; simp)] at q2
                  rw [q1, q2, List.length_cons, show i + (n + 1) = i + n + 1 by omega]; omega
              · have hcd := hidden (hcn.out d heq)
                go_wp2
                go_meet
                case rel =>
                  refine ⟨?_, rfl⟩
                  have q1 := hinv.out.out.2 (by omega)
                  have q2 := hnx.out
                  rw [if_neg (by simpa using hcd.out)] at q2
                  rw [q1, q2]; simp
            · have hlt2' : ¬ (i : Int) + (n : Int) < (x.length : Int) := by omega
              go_wp2
              go_meet
              case rel =>
                refine ⟨?_, rfl⟩
                have q1 := hinv.out.2 (by omega)
                rw [List.drop_eq_nil_of_le (by omega)] at q1
                rw [q1]; simp
        case rest =>
          obtain ⟨rfl, hwz⟩ := hcut
          replace hwz := hwz.symm
          subst hwz
          clear kC
          go_upto_block 4 with fail
          rw [hex]
          go_cut [7] from 48 to 61 (fun tv wx => tv = .string (mkB T) ∧ wx = wr)
          case first =>
            go_wp2_with fail
            go_loopg [7] ((x.drop i).take N).length (fun g tv wq => ∃ t : List UInt8, tv = .string (mkB t) ∧ g = t.length ∧ wq = wr ∧ Hid ((clsB c ≠ 3 → t = T) ∧ (clsB c = 3 → T = t.dropWhile (· == 48))))
            case atStart => exact ⟨(x.drop i).take N, rfl, rfl, rfl, hidden ⟨fun h => by rw [← hT.out, stripT, if_neg h], fun h => by rw [← hT.out, stripT, if_pos h]⟩⟩
            case round =>
              obtain ⟨t, rfl, ht, rfl, htl⟩ := hrel
              replace ht := hidden ht
              have htz := mk_size t
              by_cases hnil : t = []
              · subst hnil
                have hz0 : ¬ (0 : Int) < (([] : List UInt8).length : Int) := by simp
                go_wp2
                go_meet
                case rel => exact ⟨by rw [htl.out.2 hk]; rfl, rfl⟩
              · have hpos : 0 < t.length := List.length_pos_iff.2 hnil
                have hz1 : (0 : Int) < (t.length : Int) := by omega
                have h03 : 0 < (mkB t).size := by rw [htz]; exact hpos
                have hg3 := mk_get t 0 hpos h03
                obtain ⟨d, hd⟩ : ∃ d, t[0]'hpos = d := ⟨_, rfl⟩
                rw [hd] at hg3
                have hex3 := ex_drop t 1
                rw [htz] at hex3
                have hz2 : (1 : Int) ≤ (t.length : Int) := by omega
                have hcons : t = d :: t.drop 1 := by
                  have := List.drop_eq_getElem_cons hpos
                  rw [List.drop_zero, hd] at this; exact this
                have hdw1 := hidden (fun (h : (d.toNat : Int) = 48) => (show t.dropWhile (· == 48) = (t.drop 1).dropWhile (· == 48) by
                  conv => lhs; rw [hcons]
                  rw [List.dropWhile_cons, if_pos (u8_48' d h)]))
                have hdw2 := hidden (fun (h : ¬ (d.toNat : Int) = 48) => (show t.dropWhile (· == 48) = t by
                  conv => lhs; rw [hcons]
                  rw [List.dropWhile_cons, if_neg (fun h' => h (u8_48 d h')), ← hcons]))
                have hdl := hidden (show (t.drop 1).length < t.length by rw [List.length_drop]; omega)
                generalize t.drop 1 = t' at *
                replace hcons := hidden hcons
                replace hd := hidden hd
                by_cases h48 : (d.toNat : Int) = 48
                · go_wp2
                  go_roundg t'.length
                  case measure => have := ht.out; have := hdl.out; omega
                  case rel =>
                    refine ⟨t', rfl, rfl, rfl, hidden ⟨fun h => absurd hk h, fun h => ?_⟩⟩
                    rw [htl.out.2 h, hdw1.out h48]
                · go_wp2
                  go_meet
                  case rel => exact ⟨by rw [htl.out.2 hk, hdw2.out h48], rfl⟩
          case rest =>
            obtain ⟨rfl, hwz⟩ := hcut
            replace hwz := hwz.symm
            subst hwz
            have hTk := hidden (show (L ++ [((3, T) : Tok)]) ++ toksB (x.drop (i + N)) = toksB x by
              have h1 := hC.out
              rw [hsp.out, stepT, if_neg (by omega), ← List.append_assoc] at h1
              rw [← h1, ← hT.out, hN.out, hk]; rfl)
            have hLl : L.length ≤ 900 := by
              have h1 := congrArg List.length hTk.out
              rw [List.length_append, List.length_append] at h1
              have := hml.out; omega
            have hal : Below wr.heap.size wr (wr.alloc (Obj.cells #[Value.int .i64 3, Value.string (mkB T)] 32)) := (Below.refl _ _).alloc (Nat.le_refl _) _
            obtain ⟨v2, w2, h1, h2, h3, -⟩ := (hO.out.below hal).push (ST := 37) Tryd.underlying37 infoTk (3, T) ⟨wr.heap.size, 0, none⟩ 1 (by simp) (by simp [Addr.add]) (by omega) (by have := hB.out.size; have := hal.size; omega) 37
            have hB2 := hidden (hB.out.trans ((hal.mono hB.out.size).trans h3))
            replace h1 := hidden h1
            replace h2 := hidden h2
            clear hal h3
            go_wp2_with (at_builtin; refine wpList_append_eq _ _ 37 rfl _ _ v2 w2 rfl rfl h1.out rfl ?_)
            go_roundg (x.length - (i + N))
            case measure => have := hg.out; have := hNb.out; omega
            case rel => exact ⟨_, i + N, _, rfl, by go_num, by have := hNb.out; omega, rfl, hidden ⟨h2.out, hTk.out, hB2.out⟩⟩
    · obtain rfl : i = x.length := by omega
      have hE := hidden (show TkOwn w.heap.size wr (.slice av LL cv) (toksB x) by
        have h1 := hC.out
        rw [List.drop_length] at h1
        rw [← h1, show toksB [] = [] from rfl, List.append_nil]; exact hO.out)
      go_wp2
      go_ret
      exact ⟨⟨_, rfl, hE.out⟩, hB.out⟩
end Go.Proofs.YtnlcaabkbnppkaaDoor
