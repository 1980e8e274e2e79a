/- Kind, Left, Blocks. -/
import Derived.Test.YtpofmiecjkghgaaGreatDoorGVfp
import Derived.Sort.OwnSortedInts
import Derived.Test.YtpofmiecjkghgaaGreatDoorGDap
import Derived.Test.YtpofmiecjkghgaaGreatDoorGVgp
namespace Go.Proofs.YtpofmiecjkghgaaGreatDoor
open Go.RowKit Go.Extern.Stop Go.Stop Go.Extern Go.Maps Go.Sort Go.Shelf
set_option maxRecDepth 100000
set_option maxHeartbeats 4000000
def sortL (ks : List Int) : List Int := ks.mergeSort fun x y => decide (x <= y)
theorem isort_calls {base : Nat} {w : World} {v : Value} {ks : List Int} (h : Kept base w v ks) (hl : ks.length <= 1000) :
    Calls Tryz.prog 191 #[v] w fun e w' => e = .returned (.tuple #[]) /\ Kept base w' v (sortL ks) /\ (∀ b, b < w.heap.size -> some b ≠ v.ownBlock -> w'.heap[b]? = w.heap[b]?) /\ Below base w w' := by
  have hlt : ∀ g, v.ownBlock = some g -> base <= g /\ g < w.heap.size := fun g hg => h.row.lt g hg
  rcases h.row.2 with ⟨rfl, h0⟩ | ⟨g, cap, cur, rfl, h1, hh, h2, h3, h4, h5⟩
  · have hk : ks = [] := List.length_eq_zero_iff.1 h0
    subst hk
    refine (AnyM.slices_Sort_int_none Tryz.sortA none 0 w).mono ?_
    rintro e w' ⟨rfl, rfl⟩
    have e0 : sortL [] = [] := by simp [sortL]
    rw [e0]
    exact ⟨rfl, Kept.nil _ _, fun _ _ _ => rfl, Below.refl _ _⟩
  · rw [Nat.mul_one] at h4 h5
    have hg := (hlt g rfl).2
    refine (AnyM.slices_Sort_int Tryz.sortA g 0 cap ks w (holds_of_blockI hh h5) hg (by omega)).mono ?_
    rintro e w' ⟨rfl, n, os, rfl⟩
    have hsl : (ks.mergeSort fun x y => decide (x <= y)).length = ks.length := List.length_mergeSort _
    have hgr : w.grownBy (grow (putRow (Value.int .i64) (Sort.ahead w n) g 0 (ks.mergeSort fun x y => decide (x <= y)).toArray) os) (some g) := grownBy_sortedI _
    refine ⟨rfl, ⟨?_⟩, hgr.block, ?_⟩
    · have := ownsRow_sortedI (n := n) (os := os) hsl h1 hh h2 h3 (by rw [Nat.mul_one]; exact h4)
      unfold sortL
      rw [hsl]
      exact this
    · refine ⟨hgr.os, hgr.tape, hgr.output, hgr.size, fun k hk => hgr.block k ?_ ?_⟩
      · exact Nat.lt_of_lt_of_le hk (Nat.le_of_lt (Nat.lt_of_le_of_lt h1 hg))
      · intro e
        cases e
        omega
section
variable {E : TE} {mem : Nat -> Int} {writes : Int} {M : Chg} {w w' : World} {N : Nat -> Nd} {D : Nat -> List Int}
theorem Ino.kind (h : E.St mem writes M w) (ok : E.Ok) (hI : Ino E mem M N D) {id : Nat} (h1 : 1 <= id) (h2 : id <= E.tn) :
    Calls Tryz.prog 117 #[ptr E.tb, .int .i64 id] w fun e w' => e = .returned (.tuple #[.int .i64 ((N id).kind : Nat), .nilIface]) /\ Below w.heap.size w w' := by
  have htn := ok.tn
  have hG := hidden h.c.sys.ground
  have kU := hidden (h.record ok hI.says id h1 h2)
  have hi : i64 (id : Int) := ⟨by omega, by omega⟩
  replace hi := hidden hi
  generalize ((N id).kind : Int) = KK at *
  generalize ((N id).size : Int) = SS at *
  clear h hI ok
  go_enter Tryz.func117, Tryz.ntmps117
  go_wp2_with fail
  refine (kU.out).mono ?_
  rintro ev w1 ⟨v, rfl, hK, hB⟩
  obtain ⟨w5, hw5, hB5, hN5⟩ : ∃ w5, w1.alloc (.cells #[.int .i64 KK, .int .i64 SS, v] 151) = w5 /\ Below w1.heap.size w1 w5 /\ NdAt w5 w1.heap.size KK SS v := ⟨_, rfl, (Below.refl _ _).alloc (Nat.le_refl _) _, ⟨by simp, by simp, by simp⟩⟩
  obtain ⟨a, c, rfl, -⟩ := hK.form
  have n1 := hN5.c0
  have hB05 := hB.trans (hB5.mono hB.size)
  have hBd := hidden (hB05.trans ((below_drew1 w5).mono hB05.size))
  have kA := hidden (about_nil id hi.out w5.drew (hG.out.below hBd.out))
  have kn := hidden (fun (wx : World) (hx : Below w5.drew.heap.size w5.drew wx) => show wx.cell? ⟨w1.heap.size, 0, none⟩ = some (.int .i64 KK) from (hx.cell (p := ⟨w1.heap.size, 0, none⟩) (lt_of_cell (a := ⟨w1.heap.size, 0, none⟩) n1)).trans n1)
  clear hK hB hB5 hN5 hB05 kU hG
  generalize (List.take 9 (N id).list).length = LL at *
  go_upto_region 2 with fail
  clear hw5
  go_region_with (go_at_call 123; refine (kA.out).mono ?_; rintro ev w6 ⟨rfl, hB6⟩; have n6 := kn.out _ hB6; have hE := hidden (hBd.out.trans (hB6.mono hBd.out.size)); clear hB6)
  all_goals (go_wp2; go_ret2; exact ⟨rfl, hE.out⟩)
def cntN (K : Nat -> Nat) : Nat -> Nat
  | 0 => 0
  | j + 1 => cntN K j + (if 1 <= j /\ K j = 0 then 1 else 0)
theorem cntN_le (K : Nat -> Nat) : ∀ j, cntN K j <= j
  | 0 => Nat.le_refl _
  | j + 1 => by have := cntN_le K j; unfold cntN; split <;> omega
theorem left1_calls {W w : World} {p : Nat} {j KK SS : Int} {a : Option Addr} {L c n : Nat} (hn : n <= 1000000) (h : Going W p (.int .i64 (n : Int)) w) :
    Calls Tryz.prog 113 #[.int .i64 j, nodeV KK SS (.slice a L c), ptr p] w fun e w' => e = .returned (.bool true) /\ Going W p (if KK = 0 then .int .i64 ((n : Int) + 1) else .int .i64 (n : Int)) w' := by
  have hc := h.cell
  have hf := h.free
  have hlt : p < w.heap.size := lt_of_cell hc
  have hB : Below w.heap.size w (w.alloc (.cells #[.int .i64 KK, .int .i64 SS, .slice a L c] 151)) := (Below.refl _ _).alloc (Nat.le_refl _) _
  have hG := hidden (h.more hB)
  have hc2 := hG.out.cell
  have hf2 := hG.out.free
  have h0 := hidden h
  clear h
  by_cases hK : KK = 0
  · subst hK
    have hs := hidden ((h0.out.set (.int .i64 ((n : Int) + 1))).more ((Below.refl _ _).alloc (Nat.le_refl _) (.cells #[.int .i64 0, .int .i64 SS, .slice a L c] 151)))
    go_enter Tryz.func113, Tryz.ntmps113
    go_wp2
    go_ret
    exact ⟨rfl, by simpa using hs.out⟩
  · go_enter Tryz.func113, Tryz.ntmps113
    go_wp2
    go_ret
    exact ⟨rfl, hG.out⟩
theorem left_sees (h : E.St mem writes M w) (ok : E.Ok) (hN : E.Says mem M N) (p : Nat) :
    ISees 113 #[ptr p] E.tb E.tn (fun j => (N j).kind) (fun j => (N j).size) (fun j wx => Going w p (.int .i64 ((cntN (fun i => (N i).kind) j : Nat) : Int)) wx /\ j <= 1000) (fun _ _ => False) where
  few := by have := ok.tn; omega
  ent := enters_of Tryz.func113 (by kernel_rfl) rfl
  more := fun j wx wy hI hb => ⟨hI.1.more hb, hI.2⟩
  cell := fun j wx hI => (h.t.below hI.1.below).c3
  recd := fun j wx h1 h2 hI => ((h.more hI.1.below).record ok hN j h1 h2).mono fun e wy ⟨v, q1, q2, q3⟩ => ⟨v, _, q1, q2, q3⟩
  call := fun j wx a L c h1 h2 hI => by
    have htn := ok.tn
    refine (left1_calls (j := (j : Int)) (KK := ((N j).kind : Int)) (n := cntN (fun i => (N i).kind) j) (by have := cntN_le (fun i => (N i).kind) j; omega) hI.1).mono ?_
    rintro e wy ⟨rfl, hG⟩
    refine Or.inl ⟨rfl, ?_, by omega⟩
    unfold cntN
    by_cases hk : (N j).kind = 0
    · rw [if_pos (by omega)] at hG
      rw [if_pos ⟨h1, hk⟩]
      exact hG
    · rw [if_neg (by omega)] at hG
      rw [if_neg (fun hh => hk hh.2), Nat.add_zero]
      exact hG
theorem Ino.left (h : E.St mem writes M w) (ok : E.Ok) (hI : Ino E mem M N D) :
    Calls Tryz.prog 57 #[ptr E.tb] w fun e w' => e = .returned (.tuple #[.int .i64 ((cntN (fun i => (N i).kind) (E.tn + 1) : Nat) : Int), .nilIface]) /\ Below w.heap.size w w' := by
  have hmf : ∀ (fn : Fn) (first cap : Array Value) (w : World), (Instr.makeFunc fn first cap).run Tryz.prog w = .ok (.func fn first cap) w := fun _ _ _ _ => rfl
  have htn := ok.tn
  have hG0 : Going w w.heap.size (.int .i64 0) (w.alloc (.cells #[.int .i64 0] 3)) := ⟨by simp, by simp, Nat.le_refl _, (Below.refl _ _).alloc (Nat.le_refl _) _⟩
  have hW := hidden (iwalk_calls (left_sees h ok hI.says w.heap.size) _ ⟨hG0, by omega⟩)
  generalize ((cntN (fun i => (N i).kind) (E.tn + 1) : Nat) : Int) = C at *
  clear h ok hG0 hI
  go_enter Tryz.func57, Tryz.ntmps57
  go_wp2_with fail
  refine (hW.out).mono ?_
  rintro ev w1 ⟨rfl, (⟨hG1, -⟩ | ⟨i, hi1, hi2, hf⟩)⟩
  · have c1 := hG1.cell
    have hB1 := hidden hG1.below
    clear hG1 hW
    go_wp2
    go_ret2
    exact ⟨rfl, hB1.out⟩
  · exact hf.elim
theorem Ino.blocks (h : E.St mem writes M w) (ok : E.Ok) (hI : Ino E mem M N D) {id : Nat} (h1 : 1 <= id) (h2 : id <= E.tn) (hk : (N id).kind ≠ 0) :
    Calls Tryz.prog 238 #[ptr E.tb, .int .i64 id] w fun e w' => ∃ v, e = .returned (.tuple #[v, .nilIface]) /\ Kept w.heap.size w' v (sortL (N id).list) /\ Below w.heap.size w w' := by
  have htn := ok.tn
  have hx := (hI.says id h1 h2).1
  have hbr := blk_range ((N id).size : Int)
  have hll : (N id).list.length <= 1000 := by have := hx.2.2.1; omega
  have hG := hidden h.c.sys.ground
  have kU := hidden (h.load ok hI id h1 h2 hk)
  have hi : i64 (id : Int) := ⟨by omega, by omega⟩
  replace hi := hidden hi
  generalize ((N id).kind : Int) = KK at *
  generalize ((N id).size : Int) = SS at *
  generalize (N id).list = ks at *
  clear h hI ok hx hbr
  go_enter Tryz.func238, Tryz.ntmps238
  go_wp2_with fail
  refine (kU.out).mono ?_
  rintro ev w1 ⟨v, rfl, hK, hB⟩
  obtain ⟨w5, hw5, hB5, hN5⟩ : ∃ w5, w1.alloc (.cells #[.int .i64 KK, .int .i64 SS, v] 151) = w5 /\ Below w1.heap.size w1 w5 /\ NdAt w5 w1.heap.size KK SS v := ⟨_, rfl, (Below.refl _ _).alloc (Nat.le_refl _) _, ⟨by simp, by simp, by simp⟩⟩
  have hob : some w1.heap.size ≠ v.ownBlock := fun e => absurd (hK.row.lt _ e.symm).2 (Nat.lt_irrefl _)
  have kS := hidden (isort_calls (hK.below hB5) hll)
  have hlt5 : w1.heap.size < w5.heap.size := lt_of_cell (a := ⟨w1.heap.size, 0, none⟩) hN5.c0
  obtain ⟨a, c, rfl, -⟩ := hK.form
  have n2 := hN5.c2
  have hB05 := hidden (hB.trans (hB5.mono hB.size))
  clear hK hB hB5 kU
  replace hN5 := hidden hN5
  generalize ks.length = KL at *
  go_wp2_with fail
  refine (kS.out).mono ?_
  rintro ev w6 ⟨rfl, hK6, hbl6, hB6⟩
  have n6 : w6.cell? ⟨w1.heap.size, 2, none⟩ = some (.slice a KL c) := (World.cell?_of_block (a := ⟨w1.heap.size, 2, none⟩) (hbl6 _ hlt5 hob)).trans hN5.out.c2
  have hB06 := hidden (hB05.out.trans hB6)
  have hBd := hidden (hB06.out.trans ((below_drew1 w6).mono hB06.out.size))
  have kA := hidden (about_nil id hi.out w6.drew (hG.out.below hBd.out))
  have kn := hidden (fun (wx : World) (hx : Below w6.drew.heap.size w6.drew wx) => show wx.cell? ⟨w1.heap.size, 2, none⟩ = some (.slice a KL c) from (hx.cell (p := ⟨w1.heap.size, 2, none⟩) (lt_of_cell (a := ⟨w1.heap.size, 2, none⟩) n6)).trans n6)
  have hK7 := hidden (hK6.below (below_drew1 w6))
  clear hK6 hbl6 hB6 kS hw5 n2 hG
  go_upto_region 3 with fail
  go_region_with (go_at_call 123; refine (kA.out).mono ?_; rintro ev w8 ⟨rfl, hB8⟩; have n8 := kn.out _ hB8; have hE := hidden (And.intro (hK7.out.below hB8) (hBd.out.trans (hB8.mono hBd.out.size))); clear hB8)
  all_goals (go_wp2; go_ret2; exact ⟨_, rfl, hE.out⟩)
end
theorem grownL_le (d : List Int) (n : Nat) (h : n <= d.length) : grownL d n = d := by
  unfold grownL
  rw [show n - d.length = 0 by omega]
  simp
theorem putD_over (d zs : List Int) (at_ : Nat) (h : at_ + zs.length <= d.length) : putD d zs at_ d.length = d.take at_ ++ zs ++ d.drop (at_ + zs.length) := by
  have := piece_text d zs at_
  rw [grownL_le d _ h, show max d.length (at_ + zs.length) = d.length by omega] at this
  exact this.symm
theorem putD_end (d zs : List Int) : putD d zs d.length (d.length + zs.length) = d ++ zs := by
  have := piece_text d zs d.length
  rw [show max d.length (d.length + zs.length) = d.length + zs.length by omega] at this
  rw [<- this]
  have e : grownL d (d.length + zs.length) = d ++ List.replicate zs.length 0 := by
    unfold grownL
    rw [show d.length + zs.length - d.length = zs.length by omega]
  rw [e, List.take_left, List.drop_of_length_le (by rw [List.length_append, List.length_replicate]; omega), List.append_nil]
theorem recsL_take {L : List Rec} (h : ∀ r ∈ L, r.Good) (i : Nat) (hi : i <= L.length) : (recsL L).take (32 * i) = recsL (L.take i) := by
  have hl := recsL_len (L := L.take i) (fun r hr => h r (List.mem_of_mem_take hr))
  rw [List.length_take] at hl
  have e : recsL L = recsL (L.take i) ++ recsL (L.drop i) := by rw [<- recsL_append, List.take_append_drop]
  rw [e, List.take_append_of_le_length (by omega), List.take_of_length_le (by omega)]
theorem recsL_drop {L : List Rec} (h : ∀ r ∈ L, r.Good) (i : Nat) (hi : i <= L.length) : (recsL L).drop (32 * i) = recsL (L.drop i) := by
  have hl := recsL_len (L := L.take i) (fun r hr => h r (List.mem_of_mem_take hr))
  rw [List.length_take] at hl
  have e : recsL L = recsL (L.take i) ++ recsL (L.drop i) := by rw [<- recsL_append, List.take_append_drop]
  rw [e, List.drop_append_of_le_length (by omega), List.drop_of_length_le (by omega), List.nil_append]
theorem recs_put {L : List Rec} (h : ∀ r ∈ L, r.Good) {r : Rec} (hr : r.s.length <= 27) : putD (recsL L) (recB r) (32 * L.length) (32 * (L.length + 1)) = recsL (L ++ [r]) := by
  have hl := recsL_len h
  have := putD_end (recsL L) (recB r)
  rw [hl, recB_len hr, show 32 * L.length + 32 = 32 * (L.length + 1) by omega] at this
  rw [this, recsL_append]
  simp [recsL]
theorem recs_set {L : List Rec} (h : ∀ r ∈ L, r.Good) {r : Rec} (hr : r.s.length <= 27) (i : Nat) (hi : i < L.length) : putD (recsL L) (recB r) (32 * i) (32 * L.length) = recsL (L.set i r) := by
  have hl := recsL_len h
  have := putD_over (recsL L) (recB r) (32 * i) (by rw [recB_len hr]; omega)
  rw [hl, recB_len hr, show 32 * i + 32 = 32 * (i + 1) by omega, recsL_take h i (by omega), recsL_drop h (i + 1) (by omega)] at this
  rw [this, List.set_eq_take_append_cons_drop, if_pos hi, recsL_append, recsL, List.append_assoc]
theorem GoodL.put {L : List Rec} (h : GoodL L) {r : Rec} (hr : r.Good) (hno : ∀ q ∈ L, q.s ≠ r.s) : GoodL (L ++ [r]) := by
  refine ⟨fun q hq => ?_, ?_⟩
  · rcases List.mem_append.1 hq with hq | hq
    · exact h.each q hq
    · rw [List.mem_singleton.1 hq]; exact hr
  · rw [List.map_append, List.map_cons, List.map_nil]
    refine List.nodup_append.2 ⟨h.nodup, by simp, ?_⟩
    intro a ha c hc e
    rw [List.mem_singleton.1 hc] at e
    obtain ⟨q, hq, e2⟩ := List.mem_map.1 ha
    exact hno q hq (e2.trans e)
theorem GoodL.set {L : List Rec} (h : GoodL L) {r : Rec} (hr : r.Good) {i : Nat} (hno : ∀ j q, L[j]? = some q -> j ≠ i -> q.s ≠ r.s) : GoodL (L.set i r) := by
  refine ⟨fun q hq => ?_, ?_⟩
  · rcases List.mem_or_eq_of_mem_set hq with hq | rfl
    · exact h.each q hq
    · exact hr
  · refine List.pairwise_iff_getElem.2 fun a b ha hb hlt => ?_
    rw [List.length_map, List.length_set] at ha hb
    have hn := List.pairwise_iff_getElem.1 h.nodup a b (by rw [List.length_map]; exact ha) (by rw [List.length_map]; exact hb) hlt
    rw [List.getElem_map, List.getElem_map] at hn ⊢
    rw [List.getElem_set, List.getElem_set]
    by_cases e1 : i = a
    · subst e1
      rw [if_pos rfl, if_neg (by omega)]
      exact fun e => hno b _ (List.getElem?_eq_getElem hb) (by omega) e.symm
    · rw [if_neg e1]
      by_cases e2 : i = b
      · subst e2
        rw [if_pos rfl]
        exact hno a _ (List.getElem?_eq_getElem ha) (by omega)
      · rw [if_neg e2]
        exact hn
theorem GoodL.take {L : List Rec} (h : GoodL L) (n : Nat) : GoodL (L.take n) := ⟨fun r hr => h.each r (List.mem_of_mem_take hr), by rw [List.map_take]; exact h.nodup.sublist (List.take_sublist _ _)⟩
def dropR (L : List Rec) (i : Nat) : List Rec := match L[L.length - 1]? with
  | some r => (L.set i r).take (L.length - 1)
  | none => []
theorem dropR_get {L : List Rec} {i : Nat} {r : Rec} (hr : L[L.length - 1]? = some r) : dropR L i = (L.set i r).take (L.length - 1) := by
  unfold dropR
  rw [hr]
theorem GoodL.drop {L : List Rec} (h : GoodL L) {i : Nat} (hi : i < L.length) : GoodL (dropR L i) := by
  have hlast : L[L.length - 1]? = some (L[L.length - 1]'(by omega)) := List.getElem?_eq_getElem (by omega)
  rw [dropR_get hlast]
  refine ⟨fun q hq => ?_, ?_⟩
  · rcases List.mem_or_eq_of_mem_set (List.mem_of_mem_take hq) with hq | rfl
    · exact h.each q hq
    · exact h.each _ (List.getElem_mem _)
  · refine List.pairwise_iff_getElem.2 fun a b ha hb hlt => ?_
    rw [List.length_map, List.length_take, List.length_set] at ha hb
    have key : ∀ x y, x < L.length -> y < L.length -> x ≠ y -> (L[x]?.map Rec.s) ≠ (L[y]?.map Rec.s) := fun x y hx hy hne => by
      rw [List.getElem?_eq_getElem hx, List.getElem?_eq_getElem hy]
      simp only [Option.map_some]
      intro e
      have e := Option.some.inj e
      rcases Nat.lt_or_gt_of_ne hne with hl | hl
      · have hn := List.pairwise_iff_getElem.1 h.nodup x y (by rw [List.length_map]; exact hx) (by rw [List.length_map]; exact hy) hl
        rw [List.getElem_map, List.getElem_map] at hn
        exact hn e
      · have hn := List.pairwise_iff_getElem.1 h.nodup y x (by rw [List.length_map]; exact hy) (by rw [List.length_map]; exact hx) hl
        rw [List.getElem_map, List.getElem_map] at hn
        exact hn e.symm
    rw [List.getElem_map, List.getElem_map, List.getElem_take, List.getElem_take, List.getElem_set, List.getElem_set]
    by_cases e1 : i = a
    · rw [if_pos e1, if_neg (by omega)]
      have := key (L.length - 1) b (by omega) (by omega) (by omega)
      rw [List.getElem?_eq_getElem (by omega), List.getElem?_eq_getElem (by omega)] at this
      exact fun e => this (by simp only [Option.map_some, e])
    · rw [if_neg e1]
      by_cases e2 : i = b
      · rw [if_pos e2]
        have := key a (L.length - 1) (by omega) (by omega) (by omega)
        rw [List.getElem?_eq_getElem (by omega), List.getElem?_eq_getElem (by omega)] at this
        exact fun e => this (by simp only [Option.map_some, e])
      · rw [if_neg e2]
        have := key a b (by omega) (by omega) (by omega)
        rw [List.getElem?_eq_getElem (by omega), List.getElem?_eq_getElem (by omega)] at this
        exact fun e => this (by simp only [Option.map_some, e])
end Go.Proofs.YtpofmiecjkghgaaGreatDoor
