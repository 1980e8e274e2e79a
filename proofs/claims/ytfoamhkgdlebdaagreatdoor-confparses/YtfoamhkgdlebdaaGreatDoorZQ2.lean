/- ConfParses: the document's own blob. -/
import Derived.Test.YtfoamhkgdlebdaaGreatDoorZQ
namespace Go.Proofs.YtfoamhkgdlebdaaGreatDoor
open Go.RowKit Go.Extern.Stop Go.Stop Go.Extern
set_option maxRecDepth 100000

theorem two_at {w1 : World} {b : Nat} {u0 u1 : Value} (p q : ByteArray) (c0 : w1.cell? ⟨b, 0, none⟩ = some u0) (c1 : w1.cell? ⟨b, 1, none⟩ = some u1) :
    ((w1.setCell ⟨b, 0, none⟩ (.string p)).setCell ⟨b, 1, none⟩ (.string q)).cell? ⟨b, 0, none⟩ = some (.string p) ∧ ((w1.setCell ⟨b, 0, none⟩ (.string p)).setCell ⟨b, 1, none⟩ (.string q)).cell? ⟨b, 1, none⟩ = some (.string q) :=
  ⟨(World.cell?_setCell_other _ _ _ _ (by simp)).trans (World.cell?_setCell_same' _ _ _ (by rw [c0]; rfl)), World.cell?_setCell_same' _ _ _ (by rw [World.cell?_setCell_other _ _ _ _ (by simp), c1]; rfl)⟩
set_option maxHeartbeats 2000000 in
theorem rblob_calls (v : List UInt8) (w : World) (hv : v.length ≤ 10000) :
    Calls Tryz.prog 37 #[.string (mkB v)] w fun e w' => e = .returned (.tuple #[blV (rblob v).1, .bool (rblob v).2]) ∧ Below w.heap.size w w' := by
  have hz : ((mkB v).size : Int) = (v.length : Int) := by rw [mk_size]
  have hz2 : (mkB v).size = v.length := mk_size v
  obtain ⟨r, hr⟩ : ∃ r, rblob v = r := ⟨_, rfl⟩
  rw [hr]
  unfold blV
  replace hr := hidden hr
  obtain ⟨w1, hw1, hB1, d0, d1, hf⟩ : ∃ w1, w.alloc (.cells #[.string ⟨#[]⟩, .string ⟨#[]⟩] 26) = w1 ∧ Below w.heap.size w w1 ∧ w1.cell? ⟨w.heap.size, 0, none⟩ = some (.string ⟨#[]⟩) ∧ w1.cell? ⟨w.heap.size, 1, none⟩ = some (.string ⟨#[]⟩) ∧ (∀ j, w1.frozen? ⟨w.heap.size, j, none⟩ = false) :=
    ⟨_, rfl, (Below.refl _ _).alloc (Nat.le_refl _) _, by simp, by simp, frozen_new (one_new _ _)⟩
  have hsz1 : w.heap.size < w1.heap.size := lt_of_cell (a := ⟨w.heap.size, 0, none⟩) d0
  replace hB1 := hidden hB1
  replace hw1 := hidden hw1
  go_enter Tryz.func37, Tryz.ntmps37
  go_upto_region 1 with fail
  rw [hw1.out]
  clear hw1
  go_wp2_with fail
  go_loopg [4] v.length (fun g iv wr => ∃ i : Nat, i ≤ v.length ∧ g = v.length - i ∧ iv = .int .i64 (i : Int) ∧ wr = w1 ∧ Hid ((32 : UInt8) ∉ v.take i))
  case atStart => exact ⟨0, Nat.zero_le _, rfl, rfl, rfl, hidden (by simp)⟩
  case round =>
    obtain ⟨i, hi, hg, rfl, hwr, hn⟩ := hrel
    replace hwr := hwr.symm
    subst hwr
    replace hg := hidden hg
    by_cases hlt : i < v.length
    · have hltI : (i : Int) < (v.length : Int) := by omega
      have h0 : i < (mkB v).size := by rw [mk_size]; exact hlt
      have hgc := mkq_get v i hlt h0
      obtain ⟨c, hcx⟩ : ∃ c, v[i]'hlt = c := ⟨_, rfl⟩
      rw [hcx] at hgc
      have hxc := hidden (show v[i]? = some c by rw [← hcx]; exact List.getElem?_eq_getElem hlt)
      replace hcx := hidden hcx
      by_cases hc : c = 32
      · have hcI : ((c.toNat : Nat) : Int) = 32 := by rw [hc]; rfl
        have hcut := cut_at hn.out (by rw [hxc.out, hc])
        have hrv : r = ((v.take i, v.drop (i + 1)), blobB (v.take i) (v.drop (i + 1))) := by
          rw [← hr.out, rblob, if_pos (List.mem_of_getElem? (by rw [hxc.out, hc])), hcut]
        subst hrv
        have e1 : (mkB v).extract 0 i = mkB (v.take i) := by rw [extract_mk]; simp
        have e2 : (mkB v).extract (i + 1) v.length = mkB (v.drop (i + 1)) := by rw [extract_mk, List.take_length]
        have t1 : ((i : Int) + 1).toNat = i + 1 := by omega
        have b1 : (0 : Int) ≤ (i : Int) := by omega
        have b2 : (i : Int) + 1 ≤ (v.length : Int) := by omega
        have b3 : (i : Int) ≤ (v.length : Int) := by omega
        have b4 : (0 : Int) ≤ (i : Int) + 1 := by omega
        have hlI : (v.length : Int) ≤ 10000 := by omega
        have kB := hidden (fun wx => refblob_calls (v.take i, v.drop (i + 1)) wx)
        clear hr hcut hxc hn hc hcx
        go_upto_region 5 with fail
        go_region
        obtain ⟨w2, hw2, hB2, z0, z1⟩ : ∃ w2, (w1.alloc (Obj.cells #[Value.string (mkB (List.take i v)), Value.string (mkB (List.drop (i + 1) v))] 26)).drew = w2 ∧ Below w1.heap.size w1 w2 ∧ w2.cell? ⟨w1.heap.size, 0, none⟩ = some (.string (mkB (v.take i))) ∧ w2.cell? ⟨w1.heap.size, 1, none⟩ = some (.string (mkB (v.drop (i + 1)))) := ⟨_, rfl, ((Below.refl _ _).alloc (Nat.le_refl _) _).drew, by simp, by simp⟩
        rw [hw2]
        clear hw2
        have hzl : w1.heap.size < w2.heap.size := lt_of_cell (a := ⟨w1.heap.size, 0, none⟩) z0
        have zk := hidden (fun (wx : World) (hx : Below w2.heap.size w2 wx) => show wx.cell? ⟨w1.heap.size, 0, none⟩ = some (.string (mkB (v.take i))) ∧ wx.cell? ⟨w1.heap.size, 1, none⟩ = some (.string (mkB (v.drop (i + 1)))) from ⟨(hx.cell (p := ⟨w1.heap.size, 0, none⟩) hzl).trans z0, (hx.cell (p := ⟨w1.heap.size, 1, none⟩) hzl).trans z1⟩)
        have e0 := hidden (fun (wx : World) (hx : Below w2.heap.size w2 wx) => show wx.cell? ⟨w.heap.size, 0, none⟩ = some (.string ⟨#[]⟩) ∧ wx.cell? ⟨w.heap.size, 1, none⟩ = some (.string ⟨#[]⟩) ∧ wx.frozen? ⟨w.heap.size, 0, none⟩ = false ∧ wx.frozen? ⟨w.heap.size, 1, none⟩ = false ∧ Below w.heap.size w wx from
          let q := hB2.trans (hx.mono hB2.size)
          ⟨(q.cell (p := ⟨w.heap.size, 0, none⟩) hsz1).trans d0, (q.cell (p := ⟨w.heap.size, 1, none⟩) hsz1).trans d1, (q.frozen (p := ⟨w.heap.size, 0, none⟩) hsz1).trans (hf 0), (q.frozen (p := ⟨w.heap.size, 1, none⟩) hsz1).trans (hf 1), hB1.out.trans (q.mono hB1.out.size)⟩)
        unfold blV at kB
        go_upto_region 6 with fail
        go_region_with (go_at_call 53; refine (kB.out _).mono ?_; rintro e w' ⟨rfl, hb⟩; have hb2 : Below w2.heap.size w2 w' := (Below.refl _ _).drew.trans hb; obtain ⟨z0', z1'⟩ := zk.out _ hb2; obtain ⟨e00, e01, f00, f01, hBw⟩ := e0.out _ hb2; replace hBw := hidden hBw; replace z0' : w'.cell? ⟨w1.heap.size, 0, none⟩ = _ := z0'; clear hb hb2)
        all_goals
          go_wp2
          (try simp only [Exit.inBlock, Exit.then])
          refine bodyPost_ret (ret_bl (p0 := mkB (v.take i)) (q0 := mkB (v.drop (i + 1))) rfl rfl ?_ ?_) rfl ?_
          · exact (two_at _ _ e00 e01).1
          · exact (two_at _ _ e00 e01).2
          · exact ⟨rfl, (hBw.out.setCell (p := ⟨w.heap.size, 0, none⟩) (Nat.le_refl _) _).setCell (p := ⟨w.heap.size, 1, none⟩) (Nat.le_refl _) _⟩
      · have hcI : ¬ ((c.toNat : Nat) : Int) = 32 := by
          intro e
          exact hc (UInt8.toNat_inj.1 (by have : c.toNat = 32 := by omega
                                          rw [this]; rfl))
        have hn2 := hidden (show (32 : UInt8) ∉ v.take (i + 1) by
          rw [List.take_add_one, hxc.out]
          intro h
          rcases List.mem_append.1 h with h | h
          · exact hn.out h
          · simp at h; exact hc h.symm)
        clear hn hc
        go_wp2
        go_roundg (v.length - (i + 1))
        case measure => rw [hg.out]; omega
        case rel => exact ⟨i + 1, hlt, rfl, by go_num, rfl, hn2⟩
    · have hltI : ¬ (i : Int) < (v.length : Int) := by omega
      have hrv : r = (([], []), false) := by
        have hn' := hn.out
        rw [List.take_of_length_le (by omega)] at hn'
        rw [← hr.out, rblob, if_neg hn']
      subst hrv
      have f0 := hf 0
      have f1 := hf 1
      go_wp2
      (try simp only [Exit.inBlock, Exit.then])
      refine bodyPost_ret (ret_bl (p0 := ⟨#[]⟩) (q0 := ⟨#[]⟩) rfl rfl ?_ ?_) rfl ?_
      · exact (two_at _ _ d0 d1).1
      · exact (two_at _ _ d0 d1).2
      · exact ⟨rfl, (hB1.out.setCell (p := ⟨w.heap.size, 0, none⟩) (Nat.le_refl _) _).setCell (p := ⟨w.heap.size, 1, none⟩) (Nat.le_refl _) _⟩
end Go.Proofs.YtfoamhkgdlebdaaGreatDoor
