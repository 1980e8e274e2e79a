/- The journal's note. -/
import Derived.Test.YtpofmiecjkghgaaGreatDoorGJqp
namespace Go.Proofs.YtpofmiecjkghgaaGreatDoor
open Go.RowKit Go.Extern.Stop Go.Stop Go.Extern
set_option maxRecDepth 100000
set_option maxHeartbeats 2000000
theorem note_len (at_ : Nat) (l : Grp) : (noteWs at_ l).length = size l + 1 := by simp [noteWs, bodyWs]
theorem note_take (at_ : Nat) (l : Grp) (k : Nat) (hk : k < size l) : (noteWs at_ l).take (k + 1) = (noteWs at_ l).take k ++ [(at_ + 1 + k, chunk (bodyL l) k)] := by
  rw [List.take_succ_eq_append_getElem (by rw [note_len]; omega)]
  congr 2
  have hb : k < (bodyWs at_ l (size l)).length := by simp [bodyWs]; exact hk
  simp only [noteWs]
  rw [List.getElem_append_left hb]
  simp [bodyWs]
theorem note_last (at_ : Nat) (l : Grp) : noteWs at_ l = (noteWs at_ l).take (size l) ++ [(at_, headG l)] := by
  have hb : (bodyWs at_ l (size l)).length = size l := by simp [bodyWs]
  have e : (noteWs at_ l).take (size l) = bodyWs at_ l (size l) := by rw [noteWs, List.take_append_of_le_length (by rw [hb]; exact Nat.le_refl _), List.take_of_length_le (by rw [hb]; exact Nat.le_refl _)]
  rw [e]
  rfl
theorem wrap_pos (z : Int) (h0 : 0 <= z) (h1 : z < 4611686018427387904) : IntKind.i64.wrap z = z := by
  have h4 : z % (2 ^ 64 : Int) = z := by omega
  simp only [IntKind.wrap, IntKind.bits, IntKind.signed, h4]
  rw [if_neg (by simp; omega)]
theorem note_calls {w0 : World} {d g n : Nat} {mem : Nat -> Int} {writes left : Int} {w : World} (h : Sys w0 d g n mem writes left w) (jb at_ most : Nat) (hj : JAt jb d at_ most w) (hjd : jb ≠ d /\ jb ≠ g) (l : Grp) (own : Nat) (hg : Good n at_ own l) (hat : at_ + 1 + size l <= n) (h1 : 1 <= l.length) (v : Value) (hv : GOff d g w v (up l)) (hl : LeftOk left) (hw : 0 <= writes /\ writes < 500000000) :
    Calls Tryz.prog 258 #[ptr jb, v] w fun e w' => ∃ r, e = .returned r /\ Wrote w0 d g n (noteWs at_ l) mem writes left r w w' := by
  have hfew := h.disk.few
  have hllen := hg.few
  have hrl := rowsN_le l.length
  have hWr := hidden (written_calls l hg.len (fun j hj => by have := hg.no j hj; omega) h1 hllen v w hv.at)
  have hS := hidden h
  have hV := hidden hv
  have hJ := hidden hj
  have hgd := hidden hg
  have hdl := h.disk.lt
  have hbl : Hid ((bodyL l).length = size l * 128) := hidden (bodyK_len l hg.len _ (Nat.le_refl _))
  have hbr := hidden (bodyK_range l hg.range l.length (Nat.le_refl _))
  have hnt := hidden (note_take at_ l)
  have hnl := hidden (note_len at_ l)
  have hna := hidden (note_last at_ l)
  obtain ⟨S, hSz⟩ : ∃ S, size l = S := ⟨_, rfl⟩
  have hS1 : S <= 400 := by rw [<- hSz]; show rowsN l.length + l.length <= 400; omega
  rw [hSz] at hWr hat hbl hnt hnl hna
  obtain ⟨M, hM⟩ : ∃ M, S * 128 = M := ⟨_, rfl⟩
  rw [hM] at hWr hbl
  have hM1 : (M : Int).tdiv 128 = (S : Int) := by rw [<- hM, Int.tdiv_eq_ediv_of_nonneg (by omega)]; omega
  have hM2 : M <= 60000 := by omega
  have hMk : Hid (∀ k, k < S -> k * 128 + 128 <= M) := hidden (fun k hk => by omega)
  obtain ⟨a, cap, rfl, -, -⟩ := hv.at
  rw [up_len] at hV hWr ⊢
  clear h hv hj hg hSz hM
  go_enter Tryz.func258, Tryz.ntmps258
  go_wp2_with fail
  refine (hWr.out).mono ?_
  rintro ev w1 ⟨b, bcap, rfl, hO, hB1⟩
  have hbg : b ≠ d /\ b ≠ g := by have := hO.lt.1; omega
  have hcap := hO.caps.1
  replace hO := hidden hO
  replace hB1 := hidden hB1
  clear hWr
  go_wp2
  go_loopg [13] S (fun gk q wr => ∃ k : Nat, k <= S /\ gk = S - k /\ q = .int .i64 k /\ Hid (Mid w0 d g n (noteWs at_ l) k mem writes left w wr /\ Apart [d, g] w1 wr))
  case atStart => exact ⟨0, by omega, rfl, rfl, hidden ⟨⟨Apart.of_below hB1.out, left, by simpa [laid] using hS.out.more hB1.out, hl, fun e => e⟩, Apart.refl _ _⟩⟩
  case round =>
    obtain ⟨k, hk, hgk, rfl, hI⟩ := hrel
    replace hgk := hidden hgk
    obtain ⟨left', hS', hl', hll⟩ := hI.out.1.out
    have hA := hI.out.1.apart
    have hA1 := hI.out.2
    have hJ' := hJ.out.keep hA (by simp; exact hjd)
    have hj0 := hJ'.c0
    have hj1 := hJ'.c1
    have hO' := hO.out.keep hA1 (by simp; exact hbg)
    clear hI hJ'
    by_cases hlt : k < S
    · have hwk := hidden (hnt.out k hlt)
      have hmk := hMk.out k hlt
      have hsm : (at_ : Int) + 1 + (k : Int) = ((at_ + 1 + k : Nat) : Int) := by omega
      have hsn : at_ + 1 + k < n := by omega
      have kW : ∀ (wx : World) (c : Nat) (x : Int), x = ((at_ + 1 + k : Nat) : Int) -> Below wr.heap.size wr wx -> Calls Tryz.prog 105 #[ptr d, .int .i64 x, .slice (some ⟨b, 0 + k * 128, none⟩) 128 c] wx fun e w' => ∃ r, e = .returned r /\ Wrote w0 d g n [(at_ + 1 + k, chunk (bodyL l) k)] (laid ((noteWs at_ l).take k) mem) (writes + k) left' r wr w' := fun wx c x hx0 hx => by
        subst hx0
        have hp := (hO'.below hx).bytes
        rw [<- hbl.out] at hp
        refine (write_out (hS'.more hx) (at_ + 1 + k) hsn _ _ (bytes_part (cap' := c) hp k (by rw [hbl.out]; exact hmk)) (chunk_len _ _ (by rw [hbl.out]; exact hmk)) hl' (by omega)).mono ?_
        rintro e w' ⟨r, rfl, hW⟩
        refine ⟨r, rfl, (Apart.of_below hx).trans hW.apart, ?_⟩
        rcases hW.out with h | ⟨k2, b, i2, h1, h2, h3, h4, h5⟩
        · exact Or.inl h
        · exact Or.inr ⟨k2, b, i2, h1, h2, h3, Nat.le_trans hx.size h4, h5⟩
      replace kW := hidden kW
      generalize chunk (bodyL l) k = D at kW hwk
      rw [Nat.zero_add] at kW
      generalize at_ + 1 + k = X at kW hwk hsm hsn
      have hq1 : IntKind.i64.wrap ((at_ : Int) + 1) = (at_ : Int) + 1 := wrap_pos _ (by omega) (by omega)
      have hq3 : IntKind.i64.wrap (X : Int) = (X : Int) := wrap_pos _ (by omega) (by omega)
      replace hA := hidden hA
      replace hA1 := hidden hA1
      replace hll := hidden hll
      clear hS' hO'
      go_upto_region 5 with fail
      go_cut [7] (fun r wx => Wrote w0 d g n [(X, D)] (laid ((noteWs at_ l).take k) mem) (writes + k) left' r wr wx)
      case first =>
        refine wp_region_any (by kernel_rfl) ?_
        try (change wpAny _ _ _ _ _ _ _ (World.drew _))
        refine wpAny_take (i := 0) (v := ?_) rfl (by kernel_rfl) (by kernel_rfl) (by kernel_rfl) (fun _ _ _ h => h) (Or.inl ⟨by rfl, ?_⟩) ?_
        rotate_left
        · intro w; go_simp; try (with_reducible rfl)
        refine wpAny_take (i := 1) (v := ?_) rfl (by kernel_rfl) (by kernel_rfl) (by kernel_rfl) (fun _ _ _ h => h) (Or.inl ⟨by rfl, ?_⟩) ?_
        rotate_left
        · intro w; go_simp; try (with_reducible rfl)
        refine wpAny_take (i := 2) (v := ?_) rfl (by kernel_rfl) (by kernel_rfl) (by kernel_rfl) (fun _ _ _ h => h) (Or.inl ⟨by rfl, ?_⟩) ?_
        rotate_left
        · intro w; go_simp; try (with_reducible rfl)
        refine wpAny_take (i := 4) (v := ?_) rfl (by kernel_rfl) (by kernel_rfl) (by kernel_rfl) (fun _ _ _ h => h) (Or.inl ⟨by rfl, ?_⟩) ?_
        rotate_left
        · intro w; go_simp; try (with_reducible rfl)
        refine wpAny_take (i := 5) (v := ?_) rfl (by kernel_rfl) (by kernel_rfl) (by kernel_rfl) (fun _ _ _ h => h) (Or.inl ⟨by rfl, ?_⟩) ?_
        rotate_left
        · intro w; go_simp; try (with_reducible rfl)
        refine wpAny_take (i := 6) (v := ?_) rfl (by kernel_rfl) (by kernel_rfl) (by kernel_rfl) (fun _ _ _ h => h) (Or.inl ⟨by rfl, ?_⟩) ?_
        rotate_left
        · intro w; go_simp; try (with_reducible rfl)
        refine wpAny_take (i := 9) (v := ?_) rfl (by kernel_rfl) (by kernel_rfl) (by kernel_rfl) (fun _ _ _ h => h) (Or.inl ⟨by rfl, ?_⟩) ?_
        rotate_left
        · intro w; go_simp; try (with_reducible rfl)
        refine wpAny_take (i := 11) (v := ?_) rfl (by kernel_rfl) (by kernel_rfl) (by kernel_rfl) (fun _ _ _ h => h) (Or.inl ⟨by rfl, ?_⟩) ?_
        rotate_left
        · intro w; go_simp; try (with_reducible rfl)
        refine wpAny_take (i := 12) (v := ?_) rfl (by kernel_rfl) (by kernel_rfl) (by kernel_rfl) (fun _ _ _ h => h) (Or.inl ⟨by rfl, ?_⟩) ?_
        rotate_left
        · intro w; go_simp; try (with_reducible rfl)
        refine wpAny_ready (rs := [3, 7, 13]) (by kernel_rfl) (by simp) ?_
        refine AllReady.cons rfl (fun K hK => ?_) ?_
        · go_simp
          try (refine hK _ _ ?_; clear hK K)
          refine wpAny_ready (rs := [7, 13]) (by kernel_rfl) (by simp) ?_
          refine AllReady.cons rfl (fun K hK => ?_) ?_
          · go_simp
            try (refine hK _ _ ?_; clear hK K)
            refine wpAny_take (i := 8) (v := ?_) rfl (by kernel_rfl) (by kernel_rfl) (by kernel_rfl) (fun _ _ _ h => h) (Or.inl ⟨by rfl, ?_⟩) ?_
            rotate_left
            · intro w; go_simp; try (with_reducible rfl)
            refine wpAny_take (i := 10) (v := ?_) rfl (by kernel_rfl) (by kernel_rfl) (by kernel_rfl) (fun _ _ _ h => h) (Or.inl ⟨by rfl, ?_⟩) ?_
            rotate_left
            · intro w; go_simp; try (with_reducible rfl)
            refine wpAny_ready (rs := [13]) (by kernel_rfl) (by simp) ?_
            refine AllReady.cons rfl (fun K hK => ?_) AllReady.nil
            go_simp
            go_wp2_with (go_at_call 304; refine (part_calls b 0 M bcap k hmk (by omega) hcap _).mono ?_; rintro ev w3 ⟨⟨cap3, rfl⟩, rfl⟩)
            try (refine hK _ _ ?_; clear hK K)
            refine wpAny_ready (rs := [14]) (by kernel_rfl) (by simp) ?_
            refine AllReady.cons rfl (fun K hK => ?_) AllReady.nil
            go_simp
            go_wp2_with (go_at_call 105; refine (kW.out _ _ _ (by first | exact hq3 | rfl) (Below.refl _ _).drew).mono ?_; rintro ev w3 ⟨r, rfl, hW⟩; replace hW := hidden hW)
            try (refine hK _ _ ?_; clear hK K)
            refine wpAny_ready (rs := [15]) (by kernel_rfl) (by simp) ?_
            refine AllReady.cons rfl (fun K hK => ?_) AllReady.nil
            go_simp
            try (refine hK _ _ ?_; clear hK K)
            refine wpAny_done (by kernel_rfl) ?_ _
            go_wp2_with fail
            go_meet
            case rel => exact hW.out
          refine AllReady.cons rfl (fun K hK => ?_) ?_
          · go_simp
            go_wp2_with (go_at_call 304; refine (part_calls b 0 M bcap k hmk (by omega) hcap _).mono ?_; rintro ev w3 ⟨⟨cap3, rfl⟩, rfl⟩)
            try (refine hK _ _ ?_; clear hK K)
            refine wpAny_ready (rs := [7]) (by kernel_rfl) (by simp) ?_
            refine AllReady.cons rfl (fun K hK => ?_) AllReady.nil
            go_simp
            try (refine hK _ _ ?_; clear hK K)
            refine wpAny_ready (rs := [8]) (by kernel_rfl) (by simp) ?_
            refine AllReady.cons rfl (fun K hK => ?_) AllReady.nil
            go_simp
            try (refine hK _ _ ?_; clear hK K)
            refine wpAny_ready (rs := [10]) (by kernel_rfl) (by simp) ?_
            refine AllReady.cons rfl (fun K hK => ?_) AllReady.nil
            go_simp
            try (refine hK _ _ ?_; clear hK K)
            refine wpAny_ready (rs := [14]) (by kernel_rfl) (by simp) ?_
            refine AllReady.cons rfl (fun K hK => ?_) AllReady.nil
            go_simp
            go_wp2_with (go_at_call 105; refine (kW.out _ _ _ (by first | exact hq3 | rfl) (Below.refl _ _).drew).mono ?_; rintro ev w3 ⟨r, rfl, hW⟩; replace hW := hidden hW)
            try (refine hK _ _ ?_; clear hK K)
            refine wpAny_ready (rs := [15]) (by kernel_rfl) (by simp) ?_
            refine AllReady.cons rfl (fun K hK => ?_) AllReady.nil
            go_simp
            try (refine hK _ _ ?_; clear hK K)
            refine wpAny_done (by kernel_rfl) ?_ _
            go_wp2_with fail
            go_meet
            case rel => exact hW.out
          exact AllReady.nil
        refine AllReady.cons rfl (fun K hK => ?_) ?_
        · go_simp
          try (refine hK _ _ ?_; clear hK K)
          refine wpAny_take (i := 8) (v := ?_) rfl (by kernel_rfl) (by kernel_rfl) (by kernel_rfl) (fun _ _ _ h => h) (Or.inl ⟨by rfl, ?_⟩) ?_
          rotate_left
          · intro w; go_simp; try (with_reducible rfl)
          refine wpAny_take (i := 10) (v := ?_) rfl (by kernel_rfl) (by kernel_rfl) (by kernel_rfl) (fun _ _ _ h => h) (Or.inl ⟨by rfl, ?_⟩) ?_
          rotate_left
          · intro w; go_simp; try (with_reducible rfl)
          refine wpAny_ready (rs := [3, 13]) (by kernel_rfl) (by simp) ?_
          refine AllReady.cons rfl (fun K hK => ?_) ?_
          · go_simp
            try (refine hK _ _ ?_; clear hK K)
            refine wpAny_ready (rs := [13]) (by kernel_rfl) (by simp) ?_
            refine AllReady.cons rfl (fun K hK => ?_) AllReady.nil
            go_simp
            go_wp2_with (go_at_call 304; refine (part_calls b 0 M bcap k hmk (by omega) hcap _).mono ?_; rintro ev w3 ⟨⟨cap3, rfl⟩, rfl⟩)
            try (refine hK _ _ ?_; clear hK K)
            refine wpAny_ready (rs := [14]) (by kernel_rfl) (by simp) ?_
            refine AllReady.cons rfl (fun K hK => ?_) AllReady.nil
            go_simp
            go_wp2_with (go_at_call 105; refine (kW.out _ _ _ (by first | exact hq3 | rfl) (Below.refl _ _).drew).mono ?_; rintro ev w3 ⟨r, rfl, hW⟩; replace hW := hidden hW)
            try (refine hK _ _ ?_; clear hK K)
            refine wpAny_ready (rs := [15]) (by kernel_rfl) (by simp) ?_
            refine AllReady.cons rfl (fun K hK => ?_) AllReady.nil
            go_simp
            try (refine hK _ _ ?_; clear hK K)
            refine wpAny_done (by kernel_rfl) ?_ _
            go_wp2_with fail
            go_meet
            case rel => exact hW.out
          refine AllReady.cons rfl (fun K hK => ?_) ?_
          · go_simp
            go_wp2_with (go_at_call 304; refine (part_calls b 0 M bcap k hmk (by omega) hcap _).mono ?_; rintro ev w3 ⟨⟨cap3, rfl⟩, rfl⟩)
            try (refine hK _ _ ?_; clear hK K)
            refine wpAny_ready (rs := [3]) (by kernel_rfl) (by simp) ?_
            refine AllReady.cons rfl (fun K hK => ?_) AllReady.nil
            go_simp
            try (refine hK _ _ ?_; clear hK K)
            refine wpAny_ready (rs := [14]) (by kernel_rfl) (by simp) ?_
            refine AllReady.cons rfl (fun K hK => ?_) AllReady.nil
            go_simp
            go_wp2_with (go_at_call 105; refine (kW.out _ _ _ (by first | exact hq3 | rfl) (Below.refl _ _).drew).mono ?_; rintro ev w3 ⟨r, rfl, hW⟩; replace hW := hidden hW)
            try (refine hK _ _ ?_; clear hK K)
            refine wpAny_ready (rs := [15]) (by kernel_rfl) (by simp) ?_
            refine AllReady.cons rfl (fun K hK => ?_) AllReady.nil
            go_simp
            try (refine hK _ _ ?_; clear hK K)
            refine wpAny_done (by kernel_rfl) ?_ _
            go_wp2_with fail
            go_meet
            case rel => exact hW.out
          exact AllReady.nil
        refine AllReady.cons rfl (fun K hK => ?_) ?_
        · go_simp
          go_wp2_with (go_at_call 304; refine (part_calls b 0 M bcap k hmk (by omega) hcap _).mono ?_; rintro ev w3 ⟨⟨cap3, rfl⟩, rfl⟩)
          try (refine hK _ _ ?_; clear hK K)
          refine wpAny_ready (rs := [3, 7]) (by kernel_rfl) (by simp) ?_
          refine AllReady.cons rfl (fun K hK => ?_) ?_
          · go_simp
            try (refine hK _ _ ?_; clear hK K)
            refine wpAny_ready (rs := [7]) (by kernel_rfl) (by simp) ?_
            refine AllReady.cons rfl (fun K hK => ?_) AllReady.nil
            go_simp
            try (refine hK _ _ ?_; clear hK K)
            refine wpAny_ready (rs := [8]) (by kernel_rfl) (by simp) ?_
            refine AllReady.cons rfl (fun K hK => ?_) AllReady.nil
            go_simp
            try (refine hK _ _ ?_; clear hK K)
            refine wpAny_ready (rs := [10]) (by kernel_rfl) (by simp) ?_
            refine AllReady.cons rfl (fun K hK => ?_) AllReady.nil
            go_simp
            try (refine hK _ _ ?_; clear hK K)
            refine wpAny_ready (rs := [14]) (by kernel_rfl) (by simp) ?_
            refine AllReady.cons rfl (fun K hK => ?_) AllReady.nil
            go_simp
            go_wp2_with (go_at_call 105; refine (kW.out _ _ _ (by first | exact hq3 | rfl) (Below.refl _ _).drew).mono ?_; rintro ev w3 ⟨r, rfl, hW⟩; replace hW := hidden hW)
            try (refine hK _ _ ?_; clear hK K)
            refine wpAny_ready (rs := [15]) (by kernel_rfl) (by simp) ?_
            refine AllReady.cons rfl (fun K hK => ?_) AllReady.nil
            go_simp
            try (refine hK _ _ ?_; clear hK K)
            refine wpAny_done (by kernel_rfl) ?_ _
            go_wp2_with fail
            go_meet
            case rel => exact hW.out
          refine AllReady.cons rfl (fun K hK => ?_) ?_
          · go_simp
            try (refine hK _ _ ?_; clear hK K)
            refine wpAny_take (i := 8) (v := ?_) rfl (by kernel_rfl) (by kernel_rfl) (by kernel_rfl) (fun _ _ _ h => h) (Or.inl ⟨by rfl, ?_⟩) ?_
            rotate_left
            · intro w; go_simp; try (with_reducible rfl)
            refine wpAny_take (i := 10) (v := ?_) rfl (by kernel_rfl) (by kernel_rfl) (by kernel_rfl) (fun _ _ _ h => h) (Or.inl ⟨by rfl, ?_⟩) ?_
            rotate_left
            · intro w; go_simp; try (with_reducible rfl)
            refine wpAny_ready (rs := [3]) (by kernel_rfl) (by simp) ?_
            refine AllReady.cons rfl (fun K hK => ?_) AllReady.nil
            go_simp
            try (refine hK _ _ ?_; clear hK K)
            refine wpAny_ready (rs := [14]) (by kernel_rfl) (by simp) ?_
            refine AllReady.cons rfl (fun K hK => ?_) AllReady.nil
            go_simp
            go_wp2_with (go_at_call 105; refine (kW.out _ _ _ (by first | exact hq3 | rfl) (Below.refl _ _).drew).mono ?_; rintro ev w3 ⟨r, rfl, hW⟩; replace hW := hidden hW)
            try (refine hK _ _ ?_; clear hK K)
            refine wpAny_ready (rs := [15]) (by kernel_rfl) (by simp) ?_
            refine AllReady.cons rfl (fun K hK => ?_) AllReady.nil
            go_simp
            try (refine hK _ _ ?_; clear hK K)
            refine wpAny_done (by kernel_rfl) ?_ _
            go_wp2_with fail
            go_meet
            case rel => exact hW.out
          exact AllReady.nil
        exact AllReady.nil
      case rest =>
        clear kW
        have hW := hidden hcut
        rcases hcut.out with ⟨rfl, -⟩ | ⟨-, b4, -, -, rfl, -⟩
        · have hE := hidden (And.intro (Mid.next hA.out hll.out hwk.out hW.out) (hA1.out.trans hW.out.apart))
          clear hcut hW
          go_wp2
          go_roundg (S - (k + 1))
          case measure => rw [hgk.out]; omega
          case rel => exact ⟨k + 1, hlt, rfl, by go_num, hE⟩
        · have hE := hidden (Mid.fail (ws := noteWs at_ l) (by rw [hnl.out]; omega) hA.out hll.out hW.out (by intro e; cases e))
          clear hcut hW
          go_wp2
          go_ret
          exact ⟨_, rfl, hE.out⟩
    · obtain rfl : k = S := by omega
      have kH : ∀ wx, Below wr.heap.size wr wx -> Calls Tryz.prog 305 #[.int .i64 l.length, .slice (some ⟨b, 0, none⟩) M bcap] wx fun e w' => ∃ b2, e = .returned (.slice (some ⟨b2, 0, none⟩) 128 128) /\ Hid (OwnB wx.heap.size w' b2 128 128 (headG l) /\ Below wr.heap.size wr w') := fun wx hx => by
        refine (head_calls l.length (by omega) (bodyL l) _ wx (hO'.below hx).bytes).mono ?_
        rintro e w' ⟨b2, rfl, h1, h2⟩
        exact ⟨b2, rfl, hidden ⟨h1, hx.trans (h2.mono hx.size)⟩⟩
      have kW : ∀ (wx wy : World) (b2 : Nat), Hid (OwnB wy.heap.size wx b2 128 128 (headG l) /\ Below wr.heap.size wr wx) -> Calls Tryz.prog 105 #[ptr d, .int .i64 at_, .slice (some ⟨b2, 0, none⟩) 128 128] wx fun e w' => ∃ r, e = .returned r /\ Wrote w0 d g n (noteWs at_ l) mem writes left r w w' := fun wx wy b2 hx => by
        refine (write_out (hS'.more hx.out.2) at_ (by omega) _ _ hx.out.1.bytes (headL_len _ _) hl' (by omega)).mono ?_
        rintro e w' ⟨r, rfl, hW⟩
        exact ⟨r, rfl, Mid.last (hA.trans (Apart.of_below hx.out.2)) hll hna.out (by rw [hnl.out]; omega) hW⟩
      replace kW := hidden kW
      replace kH := hidden kH
      have hjl : jb < wr.heap.size := lt_of_cell (a := ⟨jb, 0, none⟩) hj0
      clear hS' hO' hA hA1 hll
      go_upto_region 9 with fail
      go_cut [4] (fun r wx => Wrote w0 d g n (noteWs at_ l) mem writes left r w wx)
      case first =>
        refine wp_region_any (by kernel_rfl) ?_
        try (change wpAny _ _ _ _ _ _ _ (World.drew _))
        refine wpAny_take (i := 0) (v := ?_) rfl (by kernel_rfl) (by kernel_rfl) (by kernel_rfl) (fun _ _ _ h => h) (Or.inl ⟨by rfl, ?_⟩) ?_
        rotate_left
        · intro w; go_simp; try (with_reducible rfl)
        refine wpAny_take (i := 1) (v := ?_) rfl (by kernel_rfl) (by kernel_rfl) (by kernel_rfl) (fun _ _ _ h => h) (Or.inl ⟨by rfl, ?_⟩) ?_
        rotate_left
        · intro w; go_simp; try (with_reducible rfl)
        refine wpAny_take (i := 2) (v := ?_) rfl (by kernel_rfl) (by kernel_rfl) (by kernel_rfl) (fun _ _ _ h => h) (Or.inl ⟨by rfl, ?_⟩) ?_
        rotate_left
        · intro w; go_simp; try (with_reducible rfl)
        refine wpAny_take (i := 4) (v := ?_) rfl (by kernel_rfl) (by kernel_rfl) (by kernel_rfl) (fun _ _ _ h => h) (Or.inl ⟨by rfl, ?_⟩) ?_
        rotate_left
        · intro w; go_simp; try (with_reducible rfl)
        refine wpAny_take (i := 5) (v := ?_) rfl (by kernel_rfl) (by kernel_rfl) (by kernel_rfl) (fun _ _ _ h => h) (Or.inl ⟨by rfl, ?_⟩) ?_
        rotate_left
        · intro w; go_simp; try (with_reducible rfl)
        refine wpAny_take (i := 6) (v := ?_) rfl (by kernel_rfl) (by kernel_rfl) (by kernel_rfl) (fun _ _ _ h => h) (Or.inl ⟨by rfl, ?_⟩) ?_
        rotate_left
        · intro w; go_simp; try (with_reducible rfl)
        refine wpAny_take (i := 8) (v := ?_) rfl (by kernel_rfl) (by kernel_rfl) (by kernel_rfl) (fun _ _ _ h => h) (Or.inl ⟨by rfl, ?_⟩) ?_
        rotate_left
        · intro w; go_simp; try (with_reducible rfl)
        refine wpAny_take (i := 9) (v := ?_) rfl (by kernel_rfl) (by kernel_rfl) (by kernel_rfl) (fun _ _ _ h => h) (Or.inl ⟨by rfl, ?_⟩) ?_
        rotate_left
        · intro w; go_simp; try (with_reducible rfl)
        refine wpAny_take (i := 10) (v := ?_) rfl (by kernel_rfl) (by kernel_rfl) (by kernel_rfl) (fun _ _ _ h => h) (Or.inl ⟨by rfl, ?_⟩) ?_
        rotate_left
        · intro w; go_simp; try (with_reducible rfl)
        refine wpAny_ready (rs := [3, 7, 11]) (by kernel_rfl) (by simp) ?_
        refine AllReady.cons rfl (fun K hK => ?_) ?_
        · go_simp
          try (refine hK _ _ ?_; clear hK K)
          refine wpAny_ready (rs := [7, 11]) (by kernel_rfl) (by simp) ?_
          refine AllReady.cons rfl (fun K hK => ?_) ?_
          · go_simp
            try (refine hK _ _ ?_; clear hK K)
            refine wpAny_ready (rs := [11]) (by kernel_rfl) (by simp) ?_
            refine AllReady.cons rfl (fun K hK => ?_) AllReady.nil
            go_simp
            go_wp2_with (go_at_call 305; refine (kH.out _ (Below.refl _ _).drew).mono ?_; rintro ev w3 ⟨b3, rfl, hH3⟩; have g0 := (hH3.out.2.cell (p := ⟨jb, 0, none⟩) hjl).trans hj0; have g1 := (hH3.out.2.cell (p := ⟨jb, 1, none⟩) hjl).trans hj1)
            try (refine hK _ _ ?_; clear hK K)
            refine wpAny_ready (rs := [12]) (by kernel_rfl) (by simp) ?_
            refine AllReady.cons rfl (fun K hK => ?_) AllReady.nil
            go_simp
            go_wp2_with (go_at_call 105; refine (kW.out _ _ _ hH3).mono ?_; rintro ev w4 ⟨r, rfl, hW⟩; replace hW := hidden hW)
            try (refine hK _ _ ?_; clear hK K)
            refine wpAny_ready (rs := [13]) (by kernel_rfl) (by simp) ?_
            refine AllReady.cons rfl (fun K hK => ?_) AllReady.nil
            go_simp
            try (refine hK _ _ ?_; clear hK K)
            refine wpAny_done (by kernel_rfl) ?_ _
            go_wp2_with fail
            go_meet
            case rel => exact hW.out
          refine AllReady.cons rfl (fun K hK => ?_) ?_
          · go_simp
            go_wp2_with (go_at_call 305; refine (kH.out _ (Below.refl _ _).drew).mono ?_; rintro ev w3 ⟨b3, rfl, hH3⟩; have g0 := (hH3.out.2.cell (p := ⟨jb, 0, none⟩) hjl).trans hj0; have g1 := (hH3.out.2.cell (p := ⟨jb, 1, none⟩) hjl).trans hj1)
            try (refine hK _ _ ?_; clear hK K)
            refine wpAny_ready (rs := [7]) (by kernel_rfl) (by simp) ?_
            refine AllReady.cons rfl (fun K hK => ?_) AllReady.nil
            go_simp
            try (refine hK _ _ ?_; clear hK K)
            refine wpAny_ready (rs := [12]) (by kernel_rfl) (by simp) ?_
            refine AllReady.cons rfl (fun K hK => ?_) AllReady.nil
            go_simp
            go_wp2_with (go_at_call 105; refine (kW.out _ _ _ hH3).mono ?_; rintro ev w4 ⟨r, rfl, hW⟩; replace hW := hidden hW)
            try (refine hK _ _ ?_; clear hK K)
            refine wpAny_ready (rs := [13]) (by kernel_rfl) (by simp) ?_
            refine AllReady.cons rfl (fun K hK => ?_) AllReady.nil
            go_simp
            try (refine hK _ _ ?_; clear hK K)
            refine wpAny_done (by kernel_rfl) ?_ _
            go_wp2_with fail
            go_meet
            case rel => exact hW.out
          exact AllReady.nil
        refine AllReady.cons rfl (fun K hK => ?_) ?_
        · go_simp
          try (refine hK _ _ ?_; clear hK K)
          refine wpAny_ready (rs := [3, 11]) (by kernel_rfl) (by simp) ?_
          refine AllReady.cons rfl (fun K hK => ?_) ?_
          · go_simp
            try (refine hK _ _ ?_; clear hK K)
            refine wpAny_ready (rs := [11]) (by kernel_rfl) (by simp) ?_
            refine AllReady.cons rfl (fun K hK => ?_) AllReady.nil
            go_simp
            go_wp2_with (go_at_call 305; refine (kH.out _ (Below.refl _ _).drew).mono ?_; rintro ev w3 ⟨b3, rfl, hH3⟩; have g0 := (hH3.out.2.cell (p := ⟨jb, 0, none⟩) hjl).trans hj0; have g1 := (hH3.out.2.cell (p := ⟨jb, 1, none⟩) hjl).trans hj1)
            try (refine hK _ _ ?_; clear hK K)
            refine wpAny_ready (rs := [12]) (by kernel_rfl) (by simp) ?_
            refine AllReady.cons rfl (fun K hK => ?_) AllReady.nil
            go_simp
            go_wp2_with (go_at_call 105; refine (kW.out _ _ _ hH3).mono ?_; rintro ev w4 ⟨r, rfl, hW⟩; replace hW := hidden hW)
            try (refine hK _ _ ?_; clear hK K)
            refine wpAny_ready (rs := [13]) (by kernel_rfl) (by simp) ?_
            refine AllReady.cons rfl (fun K hK => ?_) AllReady.nil
            go_simp
            try (refine hK _ _ ?_; clear hK K)
            refine wpAny_done (by kernel_rfl) ?_ _
            go_wp2_with fail
            go_meet
            case rel => exact hW.out
          refine AllReady.cons rfl (fun K hK => ?_) ?_
          · go_simp
            go_wp2_with (go_at_call 305; refine (kH.out _ (Below.refl _ _).drew).mono ?_; rintro ev w3 ⟨b3, rfl, hH3⟩; have g0 := (hH3.out.2.cell (p := ⟨jb, 0, none⟩) hjl).trans hj0; have g1 := (hH3.out.2.cell (p := ⟨jb, 1, none⟩) hjl).trans hj1)
            try (refine hK _ _ ?_; clear hK K)
            refine wpAny_ready (rs := [3]) (by kernel_rfl) (by simp) ?_
            refine AllReady.cons rfl (fun K hK => ?_) AllReady.nil
            go_simp
            try (refine hK _ _ ?_; clear hK K)
            refine wpAny_ready (rs := [12]) (by kernel_rfl) (by simp) ?_
            refine AllReady.cons rfl (fun K hK => ?_) AllReady.nil
            go_simp
            go_wp2_with (go_at_call 105; refine (kW.out _ _ _ hH3).mono ?_; rintro ev w4 ⟨r, rfl, hW⟩; replace hW := hidden hW)
            try (refine hK _ _ ?_; clear hK K)
            refine wpAny_ready (rs := [13]) (by kernel_rfl) (by simp) ?_
            refine AllReady.cons rfl (fun K hK => ?_) AllReady.nil
            go_simp
            try (refine hK _ _ ?_; clear hK K)
            refine wpAny_done (by kernel_rfl) ?_ _
            go_wp2_with fail
            go_meet
            case rel => exact hW.out
          exact AllReady.nil
        refine AllReady.cons rfl (fun K hK => ?_) ?_
        · go_simp
          go_wp2_with (go_at_call 305; refine (kH.out _ (Below.refl _ _).drew).mono ?_; rintro ev w3 ⟨b3, rfl, hH3⟩; have g0 := (hH3.out.2.cell (p := ⟨jb, 0, none⟩) hjl).trans hj0; have g1 := (hH3.out.2.cell (p := ⟨jb, 1, none⟩) hjl).trans hj1)
          try (refine hK _ _ ?_; clear hK K)
          refine wpAny_ready (rs := [3, 7]) (by kernel_rfl) (by simp) ?_
          refine AllReady.cons rfl (fun K hK => ?_) ?_
          · go_simp
            try (refine hK _ _ ?_; clear hK K)
            refine wpAny_ready (rs := [7]) (by kernel_rfl) (by simp) ?_
            refine AllReady.cons rfl (fun K hK => ?_) AllReady.nil
            go_simp
            try (refine hK _ _ ?_; clear hK K)
            refine wpAny_ready (rs := [12]) (by kernel_rfl) (by simp) ?_
            refine AllReady.cons rfl (fun K hK => ?_) AllReady.nil
            go_simp
            go_wp2_with (go_at_call 105; refine (kW.out _ _ _ hH3).mono ?_; rintro ev w4 ⟨r, rfl, hW⟩; replace hW := hidden hW)
            try (refine hK _ _ ?_; clear hK K)
            refine wpAny_ready (rs := [13]) (by kernel_rfl) (by simp) ?_
            refine AllReady.cons rfl (fun K hK => ?_) AllReady.nil
            go_simp
            try (refine hK _ _ ?_; clear hK K)
            refine wpAny_done (by kernel_rfl) ?_ _
            go_wp2_with fail
            go_meet
            case rel => exact hW.out
          refine AllReady.cons rfl (fun K hK => ?_) ?_
          · go_simp
            try (refine hK _ _ ?_; clear hK K)
            refine wpAny_ready (rs := [3]) (by kernel_rfl) (by simp) ?_
            refine AllReady.cons rfl (fun K hK => ?_) AllReady.nil
            go_simp
            try (refine hK _ _ ?_; clear hK K)
            refine wpAny_ready (rs := [12]) (by kernel_rfl) (by simp) ?_
            refine AllReady.cons rfl (fun K hK => ?_) AllReady.nil
            go_simp
            go_wp2_with (go_at_call 105; refine (kW.out _ _ _ hH3).mono ?_; rintro ev w4 ⟨r, rfl, hW⟩; replace hW := hidden hW)
            try (refine hK _ _ ?_; clear hK K)
            refine wpAny_ready (rs := [13]) (by kernel_rfl) (by simp) ?_
            refine AllReady.cons rfl (fun K hK => ?_) AllReady.nil
            go_simp
            try (refine hK _ _ ?_; clear hK K)
            refine wpAny_done (by kernel_rfl) ?_ _
            go_wp2_with fail
            go_meet
            case rel => exact hW.out
          exact AllReady.nil
        exact AllReady.nil
      case rest =>
        have hE := hidden hcut
        clear kW kH hcut
        go_wp2
        go_ret
        exact ⟨_, rfl, hE.out⟩
end Go.Proofs.YtpofmiecjkghgaaGreatDoor
