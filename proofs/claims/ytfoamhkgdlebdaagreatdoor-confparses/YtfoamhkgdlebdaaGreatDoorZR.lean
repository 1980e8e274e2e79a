/- ConfParses: the document's own Lines. -/
import Derived.Test.YtfoamhkgdlebdaaGreatDoorZQ
namespace Go.Proofs.YtfoamhkgdlebdaaGreatDoor
open Go.RowKit Go.Extern.Stop Go.Stop Go.Extern
set_option maxRecDepth 100000

theorem KeptT.form {base : Nat} {w : World} {v : Value} {l : List (List UInt8)} (h : KeptT base w v l) : ∃ a c, v = .slice a l.length c := by
  obtain ⟨a, c, hv, -, -⟩ := h.at
  exact ⟨a, c, hv⟩
/-- One text more, laid into a new row of one. -/
theorem keptT_more {base : Nat} {w : World} {v : Value} {l : List (List UInt8)} (h : KeptT base w v l) (x : List UInt8) (hn : l.length ≤ 1000000) (hbase : base ≤ w.heap.size) (ty : TypeId) :
    ∃ v' w', (Builtin.append_ #[23, 23] ty #[v, .slice (some ⟨w.heap.size, 0, none⟩) 1 1]).run Tryz.prog (w.alloc (.cells #[.string (mkB x)] 9)) = .ok v' w' ∧ KeptT base w' v' (l ++ [x]) ∧ Below base w w' := by
  have hB : Below w.heap.size w (w.alloc (.cells #[.string (mkB x)] 9)) := (Below.refl _ _).alloc (Nat.le_refl _) _
  have z0 : (w.alloc (.cells #[.string (mkB x)] 9)).cell? ⟨w.heap.size, 0, none⟩ = some (.string (mkB x)) := by simp
  obtain ⟨i0, hi, hz0, hz1, hz2⟩ := info_parts3 Tryz.infoStr
  have h' := h.below hB
  obtain ⟨v', w', hrun, hown, hgrow, -⟩ := run_append_own (P := Tryz.prog) _ base 23 ty 9 i0 (.string ⟨#[]⟩) 1 16 Tryz.underlying23 hi hz0 hz1 hz2 (by simp [Value.cells]) (by decide)
    v l.length _ h'.row ⟨w.heap.size, 0, none⟩ 1 1 [encT x] rfl (fun j u hu => by
      cases j with
      | zero => simp at hu; subst hu; have : (⟨w.heap.size, 0, none⟩ : Addr).add 0 = ⟨w.heap.size, 0, none⟩ := by simp [Addr.add]
                rw [this]; exact z0
      | succ j => simp at hu) (by intro u hu; simp at hu; subst hu; rfl) (by unfold maxLen; omega) (by omega) (Nat.le_trans hbase hB.size)
  refine ⟨v', w', hrun, ⟨?_⟩, (hB.mono hbase).trans ((Below.refl base _).grown hgrow (Nat.le_trans hbase hB.size) (fun k hk => (h'.row.lt k hk).1))⟩
  rw [List.length_append, List.map_append]
  exact hown
set_option maxHeartbeats 4000000 in
theorem rlines_calls (s : List UInt8) (w : World) (hs : s.length ≤ 2000) :
    Calls Tryz.prog 19 #[.string (mkB s)] w fun e w' => ∃ v, e = .returned v ∧ KeptT w.heap.size w' v (linesR s) ∧ Below w.heap.size w w' := by
  have hz : ((mkB s).size : Int) = (s.length : Int) := by rw [mk_size]
  have hz2 : (mkB s).size = s.length := mk_size s
  go_enter Tryz.func19, Tryz.ntmps19
  go_wp2_with fail
  go_loopg [3, 4, 5] s.length (fun g ov cv iv wr => ∃ (k : Nat) (a : Option Addr) (L c : Nat) (cu : ByteArray), k ≤ s.length ∧ g = s.length - k ∧ iv = .int .i64 (k : Int) ∧ ov = .slice a L c ∧ cv = .string cu ∧ Hid (∃ (out : List (List UInt8)) (cur : List UInt8), L = out.length ∧ cu = mkB cur ∧ LnI s k out cur ∧ KeptT w.heap.size wr (.slice a L c) out ∧ Below w.heap.size w wr ∧ cur.length ≤ k ∧ out.length ≤ k))
  case atStart => exact ⟨0, none, 0, 0, _, Nat.zero_le _, rfl, rfl, rfl, rfl, hidden ⟨[], [], rfl, rfl, LnI.start s, KeptT.nil _ _, Below.refl _ _, Nat.le_refl _, Nat.le_refl _⟩⟩
  case round =>
    obtain ⟨k, a, L, c, cu, hk, hg, rfl, rfl, rfl, hI⟩ := hrel
    obtain ⟨out, cur, rfl, rfl, hL, hK, hB, hcl, hol⟩ := hI.out
    replace hg := hidden hg
    clear hI
    obtain ⟨L, hLe⟩ : ∃ L, out.length = L := ⟨_, rfl⟩
    have hB' := hidden hB
    by_cases hlt : k < s.length
    · have hltI : (k : Int) < (s.length : Int) := by omega
      have h0 : k < (mkB s).size := by rw [mk_size]; exact hlt
      have hgc := mkq_get s k hlt h0
      obtain ⟨d, hdx⟩ : ∃ d, s[k]'hlt = d := ⟨_, rfl⟩
      rw [hdx] at hgc
      have hxd : s[k]? = some d := by rw [← hdx]; exact List.getElem?_eq_getElem hlt
      have hN := hL.next hxd
      by_cases hd : d = 10
      · rw [if_pos hd, if_pos hd] at hN
        have hdI : ((d.toNat : Nat) : Int) = 10 := by rw [hd]; rfl
        obtain ⟨v5, w5, hrun, hk5, hb5⟩ := keptT_more hK cur (by omega) hB.size 23
        obtain ⟨a5, c5, rfl⟩ := hk5.form
        have hl5 : (out ++ [cur]).length = L + 1 := by simp [hLe]
        rw [hl5] at hrun hk5
        rw [hLe] at hrun ⊢
        have hfin := hidden (show ∃ (o2 : List (List UInt8)) (c2 : List UInt8), L + 1 = o2.length ∧ (⟨#[]⟩ : ByteArray) = mkB c2 ∧ LnI s (k + 1) o2 c2 ∧ KeptT w.heap.size w5 (.slice a5 (L + 1) c5) o2 ∧ Below w.heap.size w w5 ∧ c2.length ≤ k + 1 ∧ o2.length ≤ k + 1 from ⟨_, [], hl5.symm, rfl, hN, hk5, hB.trans hb5, Nat.zero_le _, by rw [hl5]; omega⟩)
        replace hrun := hidden hrun
        clear hk5 hb5 hN hK hL hl5 hxd hdx hB hd
        generalize mkB cur = cu at *
        go_wp2_with (at_builtin; refine wpList_append_eq _ _ 23 rfl _ _ (.slice a5 (L + 1) c5) w5 rfl rfl hrun.out rfl ?_)
        go_roundg (s.length - (k + 1))
        case measure => rw [hg.out]; omega
        case rel => exact ⟨k + 1, a5, L + 1, c5, _, hlt, rfl, by go_num, rfl, rfl, hfin⟩
      · rw [if_neg hd, if_neg hd] at hN
        have hdI : ¬ ((d.toNat : Nat) : Int) = 10 := by
          intro e
          exact hd (UInt8.toNat_inj.1 (by have : d.toNat = 10 := by omega
                                          rw [this]; rfl))
        have e1 : (mkB s).extract k (k + 1) = mkB [d] := by
          rw [extract_mk, List.take_add_one, hxd, List.drop_append_of_le_length (by rw [List.length_take]; omega), List.drop_eq_nil_of_le (by rw [List.length_take]; omega)]; rfl
        have e2 : mkB cur ++ mkB [d] = mkB (cur ++ [d]) := mkq_app _ _
        have sz1 : (mkB cur).size ≤ 2000 := by rw [mk_size]; omega
        have sz2 : (mkB [d]).size = 1 := mk_size _
        have b1 : (0 : Int) ≤ (k : Int) := by omega
        have b2 : (k : Int) ≤ (k : Int) + 1 := by omega
        have b3 : (k : Int) + 1 ≤ (s.length : Int) := by omega
        have t1 : ((k : Int) + 1).toNat = k + 1 := by omega
        have b5 : (s.length : Int) ≤ 2000 := by omega
        have hfin := hidden (show ∃ (o2 : List (List UInt8)) (c2 : List UInt8), L = o2.length ∧ mkB (cur ++ [d]) = mkB c2 ∧ LnI s (k + 1) o2 c2 ∧ KeptT w.heap.size wr (.slice a L c) o2 ∧ Below w.heap.size w wr ∧ c2.length ≤ k + 1 ∧ o2.length ≤ k + 1 from ⟨out, _, hLe.symm, rfl, hN, hLe ▸ hK, hB, by simp; omega, by omega⟩)
        rw [hLe]
        clear hN hK hL hxd hdx hB hd
        generalize mkB (cur ++ [d]) = C2 at *
        generalize mkB cur = cu at *
        generalize mkB [d] = D1 at *
        go_wp2
        go_roundg (s.length - (k + 1))
        case measure => rw [hg.out]; omega
        case rel => exact ⟨k + 1, a, L, c, _, hlt, rfl, by go_num, rfl, rfl, hfin⟩
    · obtain rfl : k = s.length := by omega
      rw [hLe] at hK ⊢
      have hltI : ¬ (s.length : Int) < (s.length : Int) := by omega
      have hD := hL.done
      have hE : (mkB cur).toList.isEmpty = cur.isEmpty := by rw [mk_toList]
      cases hce : cur.isEmpty with
      | true =>
        rw [hce] at hE
        have hcn : cur = [] := by simpa using hce
        rw [if_pos hcn] at hD
        replace hD := hidden hD
        have hfin := hidden (And.intro hK hB)
        clear hK hB hL hcn hce
        generalize mkB cur = cu at *
        go_wp2
        go_ret
        refine ⟨_, rfl, ?_⟩
        rw [hD.out]
        exact hfin.out
      | false =>
        rw [hce] at hE
        have hcn : cur ≠ [] := by intro e; rw [e] at hce; cases hce
        rw [if_neg hcn] at hD
        replace hD := hidden hD
        obtain ⟨v5, w5, hrun, hk5, hb5⟩ := keptT_more hK cur (by omega) hB.size 23
        have hfin := hidden (And.intro hk5 (hB.trans hb5))
        replace hrun := hidden hrun
        clear hK hB hL hcn hce hk5 hb5
        generalize mkB cur = cu at *
        go_wp2_with (at_builtin; refine wpList_append_eq _ _ 23 rfl _ _ v5 w5 rfl rfl hrun.out rfl ?_)
        go_ret
        exact ⟨_, rfl, by rw [hD.out]; exact hfin.out⟩
end Go.Proofs.YtfoamhkgdlebdaaGreatDoor
