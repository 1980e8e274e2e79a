/- Blobs in memory; conf.blobOk, notOk, slices.IndexFunc and ContainsFunc at blobs; conf.Ok. -/
import Derived.Test.YtfoamhkgdlebdaaGreatDoorX2
namespace Go.Proofs.YtfoamhkgdlebdaaGreatDoor
open Go.RowKit Go.Extern.Stop Go.Stop Go.Extern
set_option maxRecDepth 100000

abbrev Bl : Type := List UInt8 × List UInt8
def blV (b : Bl) : Value := .agg #[.string (mkB b.1), .string (mkB b.2)]
/-- A list of blobs. -/
def BlobsAt (w : World) (v : Value) (l : List Bl) : Prop := ∃ a cap, v = .slice a l.length cap ∧ l.length ≤ cap ∧ (l ≠ [] → ∃ b off, a = some ⟨b, off, none⟩ ∧ b < w.heap.size ∧ ∀ k x, l[k]? = some x → w.cell? ⟨b, off + k * 2, none⟩ = some (.string (mkB x.1)) ∧ w.cell? ⟨b, off + k * 2 + 1, none⟩ = some (.string (mkB x.2)))
theorem BlobsAt.nil (w : World) (a : Option Addr) (cap : Nat) : BlobsAt w (.slice a 0 cap) [] := ⟨a, cap, rfl, Nat.zero_le _, fun h => absurd rfl h⟩
theorem BlobsAt.below {w w' : World} {v : Value} {l : List Bl} (h : BlobsAt w v l) (hb : Below w.heap.size w w') : BlobsAt w' v l := by
  obtain ⟨a, cap, hv, hl, hc⟩ := h
  refine ⟨a, cap, hv, hl, fun hn => ?_⟩
  obtain ⟨b, off, ha, hlt, hx⟩ := hc hn
  exact ⟨b, off, ha, Nat.lt_of_lt_of_le hlt hb.size, fun k x hk => ⟨(hb.cell (p := ⟨b, off + k * 2, none⟩) hlt).trans (hx k x hk).1, (hb.cell (p := ⟨b, off + k * 2 + 1, none⟩) hlt).trans (hx k x hk).2⟩⟩
theorem blob0_calls (n s : ByteArray) (w : World) : Calls Tryz.prog 39 #[.agg #[.string n, .string s]] w fun e w' => e = .returned (.bool ((unhexS s).isSome && okB n.data.toList)) ∧ Below w.heap.size w w' := by
  have hB : Below w.heap.size w (w.alloc (.cells #[.string n, .string s] 26)) := (Below.refl _ _).alloc (Nat.le_refl _) _
  replace hB := hidden hB
  have kU := fun w => hidden (unhex_calls s w)
  have kO := fun w => hidden (ok_calls n w)
  unfold unhexV at kU
  generalize unhexS s = r at kU ⊢
  cases r with
  | none =>
    go_enter Tryz.func39, Tryz.ntmps39
    go_wp2_with (go_at_call 56; refine (kU _).out.mono ?_; rintro e w' ⟨rfl, rfl⟩)
    go_ret
    exact ⟨rfl, hB.out⟩
  | some r =>
    go_enter Tryz.func39, Tryz.ntmps39
    go_wp2_with first
      | (go_at_call 56; refine (kU _).out.mono ?_; rintro e w' ⟨rfl, rfl⟩)
      | (go_at_call 57; refine (kO _).out.mono ?_; rintro e w' ⟨rfl, rfl⟩)
    go_ret
    exact ⟨by simp, hB.out⟩
theorem blob_calls (b : Bl) (w : World) : Calls Tryz.prog 39 #[blV b] w fun e w' => e = .returned (.bool (blobB b.1 b.2)) ∧ Below w.heap.size w w' := by
  have h := blob0_calls (mkB b.1) (mkB b.2) w
  rw [mk_list] at h
  exact h
theorem notOk_calls (b : Bl) (w : World) : Calls Tryz.prog 41 #[blV b] w fun e w' => e = .returned (.bool (!blobB b.1 b.2)) ∧ Below w.heap.size w w' := by
  have hB : Below w.heap.size w (w.alloc (.cells #[.string (mkB b.1), .string (mkB b.2)] 26)) := (Below.refl _ _).alloc (Nat.le_refl _) _
  have kB := hidden (blob_calls b (w.alloc (.cells #[.string (mkB b.1), .string (mkB b.2)] 26)))
  replace hB := hidden hB
  generalize blobB b.1 b.2 = q at kB ⊢
  unfold blV at kB ⊢
  go_enter Tryz.func41, Tryz.ntmps41
  go_wp2_with (go_at_call 39; refine kB.out.mono ?_; rintro e w' ⟨rfl, hb⟩; replace hb := hidden hb)
  go_ret
  exact ⟨rfl, hB.out.trans (hb.out.mono hB.out.size)⟩
set_option maxHeartbeats 2000000 in
theorem indexFunc_calls (l : List Bl) (v : Value) (w : World) (hv : BlobsAt w v l) (hl : l.length ≤ 100) : Calls Tryz.prog 58 #[v, .func (.func 41) #[] #[]] w fun e w' => (∃ i : Int, e = .returned (.int .i64 i) ∧ decide (0 ≤ i) = l.any (fun b => !blobB b.1 b.2)) ∧ Below w.heap.size w w' := by
  obtain ⟨a, cap, rfl, hcap, hc⟩ := hv
  obtain ⟨n, hn⟩ : ∃ n, l.length = n := ⟨_, rfl⟩
  rw [hn] at hcap hl ⊢
  go_enter Tryz.func58, Tryz.ntmps58
  go_wp2_with fail
  replace hn := hidden hn
  replace hc := hidden hc
  go_loopg [8] n (fun g i wr => ∃ k : Nat, k ≤ n ∧ g = n - k ∧ i = .int .i64 (k : Int) ∧ Below w.heap.size w wr ∧ (l.take k).any (fun b => !blobB b.1 b.2) = false)
  case atStart => exact ⟨0, Nat.zero_le _, rfl, rfl, Below.refl _ _, rfl⟩
  case round =>
    obtain ⟨k, hk, hg, rfl, hB, hall⟩ := hrel
    replace hg := hidden hg
    replace hall := hidden hall
    replace hB := hidden hB
    by_cases hlt : k < n
    · obtain ⟨x, hx⟩ : ∃ x, l[k]? = some x := ⟨_, List.getElem?_eq_getElem (by rw [hn.out]; exact hlt)⟩
      obtain ⟨b, off, rfl, hbl, hcells⟩ := hc.out (by intro h; rw [h] at hx; cases hx)
      have c0 := (hB.out.cell (p := ⟨b, off + k * 2, none⟩) hbl).trans (hcells k x hx).1
      have c1 := (hB.out.cell (p := ⟨b, off + k * 2 + 1, none⟩) hbl).trans (hcells k x hx).2
      have kN := hidden (notOk_calls x wr)
      have hs : (l.take (k + 1)).any (fun b => !blobB b.1 b.2) = ((l.take k).any (fun b => !blobB b.1 b.2) || !blobB x.1 x.2) := by
        rw [List.take_add_one, hx]; simp
      have hin : blobB x.1 x.2 = false → l.any (fun b => !blobB b.1 b.2) = true := fun h => List.any_eq_true.2 ⟨x, List.mem_of_getElem? hx, by simp [h]⟩
      replace hs := hidden hs
      replace hin := hidden hin
      replace hx := hidden hx
      clear hcells
      unfold blV at kN
      generalize blobB x.1 x.2 = q at kN hs hin
      cases q
      · have hin2 := hidden (hin.out rfl)
        clear hin
        go_wp2_with (go_at_call 41; refine kN.out.mono ?_; rintro e w' ⟨rfl, hb⟩; replace hb := hidden hb)
        go_ret
        exact ⟨⟨k, rfl, by rw [hin2.out]; simp⟩, hB.out.trans (hb.out.mono hB.out.size)⟩
      · go_wp2_with (go_at_call 41; refine kN.out.mono ?_; rintro e w' ⟨rfl, hb⟩; replace hb := hidden hb)
        go_roundg (n - (k + 1))
        case measure => rw [hg.out]; omega
        case rel => exact ⟨k + 1, hlt, rfl, by simp, hB.out.trans (hb.out.mono hB.out.size), by rw [hs.out, hall.out]; rfl⟩
    · obtain rfl : k = n := by omega
      go_wp2
      go_ret
      refine ⟨⟨-1, rfl, ?_⟩, hB.out⟩
      have h := hall.out
      rw [← hn.out, List.take_length] at h
      rw [h]; rfl
theorem containsFunc_calls (l : List Bl) (v : Value) (w : World) (hv : BlobsAt w v l) (hl : l.length ≤ 100) : Calls Tryz.prog 40 #[v, .func (.func 41) #[] #[]] w fun e w' => e = .returned (.bool (l.any (fun b => !blobB b.1 b.2))) ∧ Below w.heap.size w w' := by
  have kI := hidden (indexFunc_calls l v w hv hl)
  generalize l.any (fun b => !blobB b.1 b.2) = q at kI ⊢
  clear hv hl
  go_enter Tryz.func40, Tryz.ntmps40
  go_wp2_with (go_at_call 58; refine kI.out.mono ?_; rintro e w' ⟨⟨i, rfl, hi⟩, hb⟩; replace hb := hidden hb; replace hi := hidden hi)
  go_ret
  exact ⟨by rw [← hi.out]; simp, hb.out⟩
/-- What an entry says. -/
structure En where
  ver : List UInt8
  kn : List UInt8
  ks : List UInt8
  ex : List Bl
  op : List UInt8
def okE (e : En) : Bool := verB e.ver && blobB e.kn e.ks && decide (e.ex.length ≤ 8) && !e.ex.any (fun b => !blobB b.1 b.2) && optB e.op
def enV (e : En) (v : Value) : Value := .agg #[.string (mkB e.ver), .string (mkB e.kn), .string (mkB e.ks), v, .string (mkB e.op)]
set_option maxHeartbeats 4000000 in
theorem ok_entry (x : En) (v : Value) (w : World) (hv : BlobsAt w v x.ex) (hl : x.ex.length ≤ 100) : Calls Tryz.prog 21 #[enV x v] w fun e w' => e = .returned (.bool (okE x)) ∧ Below w.heap.size w w' := by
  obtain ⟨ver, kn, ks, ex, op⟩ := x
  obtain ⟨a, cap, rfl, hrest⟩ := (id hv : BlobsAt w v ex)
  clear hrest
  obtain ⟨W, hW⟩ : ∃ W, w.alloc (.cells #[.string (mkB ver), .string (mkB kn), .string (mkB ks), .slice a ex.length cap, .string (mkB op)] 29) = W := ⟨_, rfl⟩
  have hB : Below w.heap.size w W := by rw [← hW]; exact (Below.refl _ _).alloc (Nat.le_refl _) _
  have c0 : W.cell? ⟨w.heap.size, 0, none⟩ = some (.string (mkB ver)) := by rw [← hW]; simp
  have c1 : W.cell? ⟨w.heap.size, 1, none⟩ = some (.string (mkB kn)) := by rw [← hW]; simp
  have c2 : W.cell? ⟨w.heap.size, 2, none⟩ = some (.string (mkB ks)) := by rw [← hW]; simp
  have c3 : W.cell? ⟨w.heap.size, 3, none⟩ = some (.slice a ex.length cap) := by rw [← hW]; simp
  have c4 : W.cell? ⟨w.heap.size, 4, none⟩ = some (.string (mkB op)) := by rw [← hW]; simp
  have hlt : w.heap.size < W.heap.size := by rw [← hW]; simp
  have kV := hidden (version_calls (mkB ver) W)
  rw [mk_list] at kV
  have kB := hidden (blob_calls (kn, ks) W)
  replace hW := hidden hW
  replace hv := hidden (hv.below hB)
  replace hB := hidden hB
  simp only [okE]
  generalize verB ver = p1 at kV ⊢
  generalize blobB kn ks = p2 at kB ⊢
  unfold enV
  unfold blV at kB
  obtain ⟨L, hL⟩ : ∃ L, ex.length = L := ⟨_, rfl⟩
  have hl' : L ≤ 100 := by rw [← hL]; exact hl
  rw [hL] at hl c3 hW ⊢
  rw [hL] at hv
  replace hL := hidden hL
  obtain ⟨p8, h8⟩ : ∃ p, decide (L ≤ 8) = p := ⟨_, rfl⟩
  obtain ⟨p3, h3⟩ : ∃ p, (ex.any (fun b => !blobB b.1 b.2)) = p := ⟨_, rfl⟩
  obtain ⟨p4, h4⟩ : ∃ p, optB op = p := ⟨_, rfl⟩
  rw [h8, h3, h4]
  replace h8 := hidden h8
  replace h3 := hidden h3
  replace h4 := hidden h4
  go_enter Tryz.func21, Tryz.ntmps21
  go_upto_region 1 with fail
  rw [hW.out]
  clear hW
  cases p1
  · go_wp2_with (go_at_call 38; refine kV.out.mono ?_; rintro e w' ⟨rfl, hw⟩; subst w')
    go_ret
    exact ⟨rfl, hB.out⟩
  · go_wp2_with (go_at_call 38; refine kV.out.mono ?_; rintro e w' ⟨rfl, hw⟩; subst w')
    go_wp2_with fail
    refine kB.out.mono ?_
    rintro e w1 ⟨rfl, hb1⟩
    have d3 := (hb1.cell (p := ⟨w.heap.size, 3, none⟩) hlt).trans c3
    have d4 := (hb1.cell (p := ⟨w.heap.size, 4, none⟩) hlt).trans c4
    have hlt1 := Nat.lt_of_lt_of_le hlt hb1.size
    have hv1 := hidden (hv.out.below hb1)
    have hB1 := hidden (hB.out.trans (hb1.mono hB.out.size))
    clear c0 c1 c2 c3 c4 hb1 hB hv
    cases p2
    · go_wp2
      go_ret
      exact ⟨rfl, hB1.out⟩
    · cases p8
      · have h8' : ¬ (L : Int) ≤ 8 := by have := of_decide_eq_false h8.out; omega
        go_wp2
        go_ret
        exact ⟨rfl, hB1.out⟩
      · have h8' : (L : Int) ≤ 8 := by have := of_decide_eq_true h8.out; omega
        have kF := hidden (containsFunc_calls ex _ w1 (by rw [← hL.out] at hv1; exact hv1.out) (by rw [hL.out]; omega))
        rw [hL.out, h3.out] at kF
        go_wp2_with fail
        refine kF.out.mono ?_
        rintro e w2 ⟨rfl, hb2⟩
        have e4 := (hb2.cell (p := ⟨w.heap.size, 4, none⟩) hlt1).trans d4
        have kO := hidden (options_calls (mkB op) w2)
        rw [mk_list, h4.out] at kO
        have hB2 := hidden (hB1.out.trans (hb2.mono hB1.out.size))
        clear d3 d4 hb2 kF
        cases p3
        · go_wp2_with fail
          refine kO.out.mono ?_
          rintro e w3 ⟨rfl, hb3⟩
          have hB3 := hidden (hB2.out.trans (hb3.mono hB2.out.size))
          clear hb3
          go_wp2
          go_ret
          exact ⟨by simp, hB3.out⟩
        · go_wp2
          go_ret
          exact ⟨by simp, hB2.out⟩
end Go.Proofs.YtfoamhkgdlebdaaGreatDoor
