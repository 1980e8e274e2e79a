/- SumTells answers true, whatever it is given, and changes nothing that was there. -/
import Derived.Test.YtegbbiigjplckaaCv
namespace Go.Proofs.Ytegbbiigjplckaa
open Go.RowKit
set_option maxRecDepth 100000

theorem flat_len (zss : List (List Int)) : ∀ k, k ≤ zss.length → (∀ j, j < k → (zss.getD j []).length ≤ 200) → (zss.take k).flatten.length ≤ 200 * k
  | 0, _, _ => by simp
  | k + 1, hk, h => by
    rw [List.take_succ_eq_append_getElem (by omega), List.flatten_append, List.length_append]
    have h1 := flat_len zss k (by omega) (fun j hj => h j (by omega))
    have h2 := h k (by omega)
    have h3 : zss.getD k [] = zss[k] := by simp [List.getD, show k < zss.length by omega]
    rw [h3] at h2
    simp
    simp at h1
    omega
theorem flat_range (w : World) (v : Value) (zss : List (List Int)) (h : PartsAt w v zss) : ∀ z ∈ zss.flatten, 0 ≤ z ∧ z ≤ 255 := by
  intro z hz
  obtain ⟨l, hl, hzl⟩ := List.mem_flatten.1 hz
  obtain ⟨k, hk, rfl⟩ := List.mem_iff_getElem.1 hl
  obtain ⟨a, cap, hv, hm, hc⟩ := h
  obtain ⟨b, off, ha, hlt, hcell⟩ := hc (by intro h; subst h; simp at hk)
  obtain ⟨x, hx, xa, xcap, rfl, hr, _⟩ := hcell k hk
  have h3 : zss.getD k [] = zss[k] := by simp [List.getD, hk]
  rw [h3] at hr
  exact hr z hzl

set_option maxHeartbeats 2000000 in
theorem sumTells_calls (w : World) (v lv : Value) (zs : List Int) (zss : List (List Int)) (h : BytesAt w v zs) (hl : PartsAt w lv zss) :
    Calls Try.prog 6 #[v, lv] w fun e w' => e = .returned (.bool true) ∧ Below w.heap.size w w' := by
  have hh := hidden h
  have hhl := hidden hl
  obtain ⟨a, cap, rfl, hr, hm, _, _⟩ := h
  obtain ⟨la, lcap, rfl, hlm, hlc⟩ := hl
  replace hr := hidden hr
  replace hm := hidden hm
  replace hlm := hidden hlm
  replace hlc := hidden hlc
  by_cases hlen : zs.length ≤ 5000 ∧ zss.length ≤ 50
  · have hlen1 : ¬ ((zs.length : Int) > 5000) := by omega
    have hlen2 : ¬ ((zss.length : Int) > 50) := by omega
    replace hlen := hidden hlen
    go_enter Try.func6, Try.ntmps6
    go_wp2_with fail
    go_loopg [5, 6] zss.length (fun g s i wr => ∃ k : Nat, k ≤ zss.length ∧ g = zss.length - k ∧ (∃ q : Int, i = .int .i64 q ∧ q = (k : Int)) ∧ OwnB wr w.heap.size s (zss.take k).flatten ∧ Below w.heap.size w wr ∧ ∀ j, j < k → (zss.getD j []).length ≤ 200)
    case atStart => exact ⟨0, Nat.zero_le _, rfl, ⟨0, rfl, rfl⟩, World.ownsRow_nil _ _ _ _, Below.refl _ _, fun j hj => by omega⟩
    case round =>
      obtain ⟨k, hk, hg, ⟨q, rfl, hq⟩, hown, hB, hall⟩ := hrel
      have hq0 : 0 ≤ q := by omega
      have hs := hB.size
      by_cases hlt : k < zss.length
      · obtain ⟨b, off, rfl, hb, hcells⟩ := hlc.out (by intro h; rw [h] at hlt; simp at hlt)
        obtain ⟨x, hcell, hx⟩ := hcells k hlt
        have hxr := hidden (hx.below hB)
        obtain ⟨xa, xcap, rfl, _⟩ := hx
        obtain rfl : k = q.toNat := by omega
        have hcell' := (hB.cell (p := ⟨b, off + q.toNat, none⟩) hb).trans hcell
        have hlq : q < (zss.length : Int) := by omega
        by_cases h200 : (zss.getD q.toNat []).length ≤ 200
        · have hl200 : ¬ (((zss.getD q.toNat []).length : Int) > 200) := by omega
          have hfl := flat_len zss q.toNat hk hall
          have hlz := hlen.out.2
          obtain ⟨v1, w1, ha1, hown1, hB1⟩ := append_bytes wr w.heap.size 22 _ _ _ _ hown hxr.out hs (by omega)
          have hst : (zss.take (q.toNat + 1)).flatten = (zss.take q.toNat).flatten ++ zss.getD q.toNat [] := by
            rw [List.take_succ_eq_append_getElem hlt, List.flatten_append]; simp [List.getD, hlt]
          rw [← hst] at hown1
          have hpack := hidden (And.intro hk (And.intro hg (And.intro hq (And.intro hown1 (And.intro (hB.trans hB1) (And.intro hall (And.intro h200 hlt)))))))
          replace ha1 := hidden ha1
          clear hk hg hq hown hB hall hcells hcell hxr hst hfl hlz hown1 hB1 h200 hlt hlc
          generalize (zss.getD q.toNat []).length = n at hl200 hcell' ha1
          go_wp2_with (at_builtin; refine wpList_append_eq _ _ 22 rfl _ _ v1 w1 rfl rfl ha1.out rfl ?_)
          go_roundg (zss.length - (q.toNat + 1))
          case measure => obtain ⟨hk, hg, hq, hown1, hB1, hall, h200, hlt⟩ := hpack.out; rw [hg]; omega
          case rel =>
            obtain ⟨hk, hg, hq, hown1, hB1, hall, h200, hlt⟩ := hpack.out
            refine ⟨q.toNat + 1, hlt, rfl, ⟨_, rfl, by omega⟩, hown1, hB1, fun j hj => ?_⟩
            by_cases e : j = q.toNat
            · subst e; exact h200
            · exact hall j (by omega)
        · have hl200 : ((zss.getD q.toNat []).length : Int) > 200 := by omega
          clear hk hg hq hown hall hcells hcell hxr hlt hlc h200
          generalize (zss.getD q.toNat []).length = n at hl200 hcell'
          go_wp2_with fail
          refine (awake_calls wr).mono ?_
          rintro ev w1 ⟨rfl, hB1⟩
          go_wp2
          go_ret
          exact ⟨rfl, hB.trans (hB1.mono hs)⟩
      · have hlq : ¬ q < (zss.length : Int) := by omega
        have ht : zss.take k = zss := List.take_of_length_le (by omega)
        rw [ht] at hown
        have hbv := hidden (hh.out.below hB)
        have hbl := hidden (hhl.out.below hB)
        have hba := hidden (hown.bytes (flat_range w _ zss hhl.out))
        have hBd : Below wr.heap.size wr wr.drew := (Below.refl _ _).drew
        have hcv := conv_bytes _ _ _ (hbv.out.below hBd)
        have hca := conv_bytes _ _ _ (hba.out.below hBd)
        have hz1 : Hid ((ofBytes zs).size ≤ maxLen) := hidden (by rw [ofBytes_size]; exact hm.out)
        have hz2 : Hid ((ofBytes zss.flatten).size ≤ maxLen) := hidden (by
          have h1 := flat_len zss zss.length (Nat.le_refl _) (fun j hj => hall j (by omega))
          rw [List.take_of_length_le (Nat.le_refl _)] at h1
          have h2 := hlen.out.2
          rw [ofBytes_size]
          unfold maxLen
          omega)
        have e1 : Hid (bytesOf (ofBytes zs) = zs) := hidden (bytesOf_ofBytes zs hr.out)
        have e2 : Hid (bytesOf (ofBytes zss.flatten) = zss.flatten) := hidden (bytesOf_ofBytes _ (flat_range w _ zss hhl.out))
        have hpc := hidden (parts_calls zss _ wr.drew (hbl.out.below hBd))
        generalize zss.flatten = fl at hba hca hz2 e2 hpc
        obtain ⟨ua, ucap, hu, _⟩ := hba.out
        replace hBd := hidden hBd
        subst hu
        generalize ofBytes zs = s1 at hcv hz1 e1
        generalize ofBytes fl = s2 at hca hz2 e2
        replace e1 := e1.out
        replace e2 := e2.out
        replace hz1 := hz1.out
        replace hz2 := hz2.out
        clear hk hg hq hall ht hown hlt
        go_wp2_with fail
        go_region_with (first
          | (go_at_call 11; refine (of_calls zs _ _ (hbv.out.below hBd.out)).mono ?_; rintro ev w' ⟨rfl, rfl⟩)
          | (go_at_call 10; refine hpc.out.mono ?_; rintro ev w' ⟨rfl, rfl⟩)
          | (go_at_call 15; refine (refof_calls _ (by assumption) _).mono ?_; rintro ev w' ⟨rfl, rfl⟩)
          | (go_at_call 9; refine (awake_calls _).mono ?_; rintro ev w' ⟨rfl, hBx⟩))
        all_goals
          go_wp2
          go_ret
          exact ⟨rfl, hB.trans (((Below.refl _ _).drew.trans hBx).mono hs)⟩
  · by_cases h1 : zs.length ≤ 5000
    · have hlen1 : ¬ ((zs.length : Int) > 5000) := by omega
      have hlen2 : (zss.length : Int) > 50 := by omega
      clear hlen h1
      go_enter Try.func6, Try.ntmps6
      go_wp2_with fail
      refine (awake_calls w).mono ?_
      rintro ev w1 ⟨rfl, hB⟩
      go_wp2
      go_ret
      exact ⟨rfl, hB⟩
    · have hlen1 : (zs.length : Int) > 5000 := by omega
      clear hlen h1
      go_enter Try.func6, Try.ntmps6
      go_wp2_with fail
      refine (awake_calls w).mono ?_
      rintro ev w1 ⟨rfl, hB⟩
      go_wp2
      go_ret
      exact ⟨rfl, hB⟩
end Go.Proofs.Ytegbbiigjplckaa
