/- VersionSorts answers true, whatever it is given, and changes nothing that was there. -/
import Derived.Test.YtnlcaabkbnppkaaDoorS12
import Derived.Test.YtnlcaabkbnppkaaDoorS14
namespace Go.Proofs.YtnlcaabkbnppkaaDoor
open Go Go.RowKit
set_option maxRecDepth 100000

theorem srt_one {A M N : List TT} (hM : M.Perm A) (hN : N.Perm A) (sM : Srt M) (sN : Srt N) : M = N :=
  List.Perm.eq_of_pairwise (fun _ _ _ _ h1 h2 => (ltT_asymm h1 h2).elim) sM sN (hM.trans hN.symm)
theorem TRow.txts {w : World} {b : Nat} {D : List (List UInt8)} (h : TRow w b D) : TxtsAt w (.slice (some ⟨b, 0, none⟩) D.length D.length) D :=
  ⟨_, _, rfl, Nat.le_refl _, fun _ => ⟨b, 0, rfl, h.lt, fun k x hk => by rw [Nat.zero_add]; exact h.cell hk⟩⟩
theorem srt_step {M : List TT} (h : Srt M) {k : Nat} {x y : TT} (hx : M[k]? = some x) (hy : M[k + 1]? = some y) : ¬ 0 < cmpV x.1 y.1 := by
  obtain ⟨h1, rfl⟩ := List.getElem?_eq_some_iff.1 hx
  obtain ⟨h2, rfl⟩ := List.getElem?_eq_some_iff.1 hy
  have := List.pairwise_iff_getElem.1 h k (k + 1) h1 h2 (by omega)
  rcases this with h | ⟨h, -⟩ <;> omega
theorem txt_at {M : List TT} {k : Nat} {x : TT} (h : M[k]? = some x) : (txt M)[k]? = some x.1 := by rw [txt_get, h]; rfl

set_option maxHeartbeats 16000000 in
theorem versionSorts_calls (v : Value) (l : List (List UInt8)) (w : World) (hv : TxtsAt w v l) : Calls Tryd.prog 3 #[v] w fun e w' => e = .returned (.bool true) ∧ Below w.heap.size w w' := by
  have kA := hidden (fun w => awake_calls w)
  obtain ⟨a, cap, hva, -, hc⟩ := id hv
  obtain ⟨n, hln⟩ : ∃ n, l.length = n := ⟨_, rfl⟩
  rw [hln] at hva
  by_cases h40 : 40 < n
  · have h40' : (40 : Int) < (n : Int) := by omega
    subst hva
    clear hv hc hln h40
    go_enter Tryd.func3, Tryd.ntmps3
    go_wp2_with fail
    refine (kA.out _).mono ?_
    rintro e w1 ⟨rfl, hB⟩
    go_wp2
    go_ret
    exact ⟨rfl, hB⟩
  have h40' : ¬ (40 : Int) < (n : Int) := by omega
  replace h40 := hidden h40
  have hv1 := hidden hv
  clear hv
  have hln' := hidden hln
  clear hln
  replace hc := hidden hc
  have hv2' := hidden (show TxtsAt w (.slice a n cap) l from hva ▸ hv1.out)
  subst hva
  go_enter Tryd.func3, Tryd.ntmps3
  go_wp2_with fail
  go_loopg [3] n (fun g si wr => ∃ k : Nat, k ≤ n ∧ g = n - k ∧ si = .int .i64 (k : Int) ∧ Hid ((∀ x ∈ l.take k, x.length ≤ 60) ∧ wr = w))
  case atStart => exact ⟨0, Nat.zero_le _, rfl, rfl, hidden ⟨fun x hx => by simp at hx, rfl⟩⟩
  case round =>
    obtain ⟨k, hk, hg, rfl, hV⟩ := hrel
    replace hg := hidden hg
    by_cases hlt : k < n
    · have hltI : (k : Int) < (n : Int) := by omega
      obtain ⟨x, hx⟩ : ∃ x, l[k]? = some x := ⟨_, List.getElem?_eq_getElem (by rw [hln'.out]; exact hlt)⟩
      obtain ⟨b, off, rfl, hb, hcells⟩ := hc.out (by intro e; rw [e] at hx; simp at hx)
      obtain ⟨hall, hwr⟩ := hV.out
      replace hwr := hwr.symm
      subst hwr
      have c0 := hcells k x hx
      have hsz := mk_size x
      clear hcells hV
      by_cases hbig : 60 < x.length
      · have hbigI : (60 : Int) < (x.length : Int) := by omega
        clear hall hx hb hbig
        go_wp2_with fail
        refine (kA.out _).mono ?_
        rintro e w1 ⟨rfl, hB⟩
        go_wp2
        go_ret
        exact ⟨rfl, hB⟩
      · have hbigI : ¬ (60 : Int) < (x.length : Int) := by omega
        have hE := hidden (show ∀ y ∈ l.take (k + 1), y.length ≤ 60 from fun y hy => by
          rw [List.take_add_one, hx] at hy
          rcases List.mem_append.1 hy with h | h
          · exact hall y h
          · have : y = x := by simpa using h
            subst this; omega)
        clear hall hx hb hbig
        go_wp2
        go_roundg (n - (k + 1))
        case measure => rw [hg.out]; omega
        case rel => exact ⟨k + 1, hlt, rfl, by go_num, hidden ⟨hE.out, rfl⟩⟩
    · obtain rfl : k = n := by omega
      obtain ⟨hall, hwr⟩ := hV.out
      replace hwr := hwr.symm
      subst hwr
      have h60 : ∀ x ∈ l, x.length ≤ 60 := by rw [List.take_of_length_le (by rw [hln'.out]; exact Nat.le_refl _)] at hall; exact hall
      clear hall hV hc
      have hv2 : TxtsAt w (.slice a k cap) l := hv2'.out
      have h4 : l.length ≤ 40 := by have := h40.out; have := hln'.out; omega
      have kS := hidden (sort_calls _ l w hv2 (fun x hx => by have := h60 x hx; omega) h4)
      have kR := hidden (fun (wx : World) (hx : Below w.heap.size w wx) => rsort_calls _ l wx (hv2.below hx) (fun x hx => by have := h60 x hx; omega) h4)
      have kN := hidden (fun (wx : World) (hx : Below w.heap.size w wx) => newest_calls _ l wx (hv2.below hx) (fun x hx => by have := h60 x hx; omega) (by omega))
      have kM := hidden (fun (wx : World) (hx : Below w.heap.size w wx) => rnewest_calls _ l wx (hv2.below hx) (fun x hx => by have := h60 x hx; omega) h4)
      replace h60 := hidden h60
      rw [hln'.out] at kS
      clear hv2 hv1 hv2' h4 hlt hg
      go_wp2_with fail
      refine kS.out.mono ?_
      rintro e w1 ⟨rfl, ⟨M, hp, hs, hT⟩, hB1⟩
      have hMl : M.length = k := by rw [hp.length_eq]; simp [hln'.out]
      have hMb := hidden (fun (x : TT) (hx : x ∈ M) => h60.out x.1 (tag_mem (hp.subset hx)))
      replace hB1 := hidden hB1
      replace hT := hidden hT
      go_wp2_with fail
      refine (kR.out _ hB1.out).mono ?_
      rintro e w2 ⟨⟨v2, M2, rfl, hp2, hs2, hO⟩, hB2⟩
      obtain rfl : M2 = M := srt_one hp2 hp hs2 hs
      have hT2 := hidden (hT.out.below hB2)
      have hB3 := hidden (hB1.out.trans (hB2.mono hB1.out.size))
      have kE := hidden (sameTexts_calls (.slice (some ⟨w.heap.size, 0, none⟩) k k) v2 (txt M2) w2 (by have := hT2.out.txts; rw [txt_len, hMl] at this; exact this) hO.at (by rw [txt_len]; have := h40.out; omega))
      clear hp hp2 hs2 hO hB2 hB1 hT kS kR
      replace hs := hidden hs
      replace hMl := hidden hMl
      go_wp2_with fail
      refine kE.out.mono ?_
      rintro e w3 ⟨rfl, hB4⟩
      have hT3 := hidden (hT2.out.below hB4)
      have hB5 := hidden (hB3.out.trans (hB4.mono hB3.out.size))
      clear hB3 hB4 hT2 kE
      go_wp2_with fail
      refine (kN.out _ hB5.out).mono ?_
      rintro e w4 ⟨rfl, hB6⟩
      have hT4 := hidden (hT3.out.below hB6)
      have hB7 := hidden (hB5.out.trans (hB6.mono hB5.out.size))
      clear hB5 hB6 hT3 kN
      go_wp2_with fail
      refine (kM.out _ hB7.out).mono ?_
      rintro e w5 ⟨rfl, hB8⟩
      have hT5 := hidden (hT4.out.below hB8)
      have hB9 := hidden (hB7.out.trans (hB8.mono hB7.out.size))
      clear hB7 hB8 hT4 kM
      generalize bestF l l.length = z
      go_wp2_with fail
      go_loopg [5] k (fun g si wr => ∃ q : Nat, 1 ≤ q ∧ q ≤ k + 1 ∧ g = k + 1 - q ∧ si = .int .i64 (q : Int) ∧ Hid (TRow wr w.heap.size (txt M2) ∧ Below w.heap.size w wr))
      case atStart => exact ⟨1, Nat.le_refl _, by omega, by omega, rfl, hidden ⟨hT5.out, hB9.out⟩⟩
      case round =>
        clear hT5 hB9
        obtain ⟨q, hq1, hqk, hg2, rfl, hV2⟩ := hrel
        replace hg2 := hidden hg2
        by_cases hlt2 : q < k
        · have i0 : (q : Int) < (k : Int) := by omega
          obtain ⟨p, hpq⟩ : ∃ p, q = p + 1 := ⟨q - 1, by omega⟩
          have i1 : (q : Int) - 1 = (p : Int) := by omega
          have i2 : (p : Int) < (k : Int) := by omega
          obtain ⟨x, hx⟩ : ∃ x, M2[p]? = some x := ⟨_, List.getElem?_eq_getElem (by rw [hMl.out]; omega)⟩
          obtain ⟨y, hy⟩ : ∃ y, M2[q]? = some y := ⟨_, List.getElem?_eq_getElem (by rw [hMl.out]; omega)⟩
          have hz0 : ¬ 0 < cmpV x.1 y.1 := srt_step hs.out hx (by rw [← hpq]; exact hy)
          have c0 := hV2.out.1.cell (txt_at hx)
          have c1 := hV2.out.1.cell (txt_at hy)
          have r0 := cell_regrown c0
          have r1 := cell_regrown c1
          have cC := hidden (cmp_grown x.1 y.1 wr (by have := hMb.out x (List.mem_of_getElem? hx); omega) (by have := hMb.out y (List.mem_of_getElem? hy); omega))
          have hV3 := hidden (fun (wx : World) (h : Below wr.heap.size wr wx) => And.intro (hV2.out.1.below h) (hV2.out.2.trans (h.mono hV2.out.2.size)))
          generalize cmpV x.1 y.1 = z2 at cC hz0
          replace hpq := hidden hpq
          clear hx hy hV2 hq1 hqk
          go_upto_region 14 with fail
          refine wp_region_quiet_below (by kernel_rfl) (by kernel_rfl) ?_
          repeat (go_big_quiet_step (first | exact cC.out _ _))
          refine wpQuiet_nil ?_
          intro _ hw'
          obtain ⟨⟨dq, osq⟩, hw''⟩ := hw'
          subst hw''
          have hV5 := hidden (hV3.out _ (below_regrown wr dq osq))
          generalize Go.Sort.grow (redrawn wr dq) osq = w6 at hV5 ⊢
          clear c0 c1 r0 r1 cC hV3
          go_wp2
          go_roundg (k + 1 - (q + 1))
          case measure => rw [hg2.out]; omega
          case rel => exact ⟨q + 1, by omega, by omega, rfl, by go_num, hV5⟩
        · have i0 : ¬ (q : Int) < (k : Int) := by omega
          have hB10 := hidden hV2.out.2
          clear hV2 hq1 hqk
          go_wp2_with fail
          refine (kA.out _).mono ?_
          rintro e w7 ⟨rfl, hBx⟩
          have hB11 := hidden (hB10.out.trans (hBx.mono hB10.out.size))
          go_wp2
          go_ret
          exact ⟨rfl, hB11.out⟩
end Go.Proofs.YtnlcaabkbnppkaaDoor
