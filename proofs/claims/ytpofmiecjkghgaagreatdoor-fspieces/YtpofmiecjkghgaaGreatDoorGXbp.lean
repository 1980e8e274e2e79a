/- The blocks that inodes have are just those that are taken: covered. -/
import Derived.Test.YtpofmiecjkghgaaGreatDoorGWap
import Derived.Test.YtpofmiecjkghgaaGreatDoorShelf3
import Derived.Test.YtpofmiecjkghgaaGreatDoorGXap
import Derived.Test.YtpofmiecjkghgaaGreatDoorGWgp
namespace Go.Proofs.YtpofmiecjkghgaaGreatDoor
open Go.RowKit Go.Extern.Stop Go.Stop Go.Extern Go.Maps Go.Sort Go.Shelf
set_option maxRecDepth 100000
set_option maxHeartbeats 12000000
theorem sortL_perm (ks : List Int) : (sortL ks).Perm ks := List.mergeSort_perm _ _
theorem sortL_inc {ks : List Int} (hn : ks.Nodup) : (sortL ks).Pairwise (· < ·) := by
  have h1 : (sortL ks).Pairwise (fun x y => decide (x <= y) = true) := List.pairwise_mergeSort (fun a b c h1 h2 => by simp at *; omega) (fun a b => by simp; omega) ks
  have h2 : (sortL ks).Nodup := (sortL_perm ks).nodup_iff.2 hn
  exact (h1.and h2).imp fun ⟨a, b⟩ => by simp at a; omega
theorem inc_ext : ∀ {l1 l2 : List Int}, l1.Pairwise (· < ·) -> l2.Pairwise (· < ·) -> (∀ z, z ∈ l1 <-> z ∈ l2) -> l1 = l2
  | [], [], _, _, _ => rfl
  | [], b :: r, _, _, h => absurd ((h b).2 (by simp)) (by simp)
  | a :: r, [], _, _, h => absurd ((h a).1 (by simp)) (by simp)
  | a :: r, b :: q, h1, h2, h => by
    obtain ⟨x1, x2⟩ := List.pairwise_cons.1 h1
    obtain ⟨y1, y2⟩ := List.pairwise_cons.1 h2
    have hab : a = b := by
      rcases List.mem_cons.1 ((h a).1 (by simp)) with e | e
      · exact e
      · rcases List.mem_cons.1 ((h b).2 (by simp)) with e' | e'
        · exact e'.symm
        · have := y1 a e
          have := x1 b e'
          omega
    subst hab
    rw [inc_ext x2 y2 (fun z => ⟨fun hz => ?_, fun hz => ?_⟩)]
    · rcases List.mem_cons.1 ((h z).1 (by simp [hz])) with e | e
      · have := x1 z hz
        omega
      · exact e
    · rcases List.mem_cons.1 ((h z).2 (by simp [hz])) with e | e
      · have := y1 z hz
        omega
      · exact e
def hadL (N : Nat -> Nd) (j : Nat) : List Int := (List.range j).flatMap fun i => sortL (N (i + 1)).list
theorem hadL_succ (N : Nat -> Nd) (j : Nat) : hadL N (j + 1) = hadL N j ++ sortL (N (j + 1)).list := by
  unfold hadL
  rw [List.range_succ, List.flatMap_append]
  simp
theorem hadL_mem {N : Nat -> Nd} {j : Nat} {z : Int} : z ∈ hadL N j <-> ∃ id, 1 <= id /\ id <= j /\ z ∈ (N id).list := by
  unfold hadL
  rw [List.mem_flatMap]
  constructor
  · rintro ⟨i, h1, h2⟩
    exact ⟨i + 1, by omega, by have := List.mem_range.1 h1; omega, (sortL_perm _).mem_iff.1 h2⟩
  · rintro ⟨id, h1, h2, h3⟩
    exact ⟨id - 1, List.mem_range.2 (by omega), by rw [show id - 1 + 1 = id by omega]; exact (sortL_perm _).mem_iff.2 h3⟩
section
variable {fb rs hb : Nat} {E : TE} {mem : Nat -> Int} {writes : Int} {M : Chg} {w w' : World} {N : Nat -> Nd} {D : Nat -> List Int}
theorem hadL_nodup (hI : Ino E mem M N D) : ∀ j, j <= E.tn -> (hadL N j).Nodup
  | 0, _ => by simp [hadL]
  | j + 1, hj => by
    rw [hadL_succ]
    refine List.nodup_append.2 ⟨hadL_nodup hI j (by omega), (sortL_perm _).nodup_iff.2 (hI.nodup (j + 1) (by omega) hj), fun a ha b hb e => ?_⟩
    subst e
    obtain ⟨id, h1, h2, h3⟩ := hadL_mem.1 ha
    exact hI.apart id (j + 1) h1 (by omega) (by omega) hj (by omega) a h3 ((sortL_perm _).mem_iff.1 hb)
theorem hadL_len (hI : Ino E mem M N D) (j : Nat) (hj : j <= E.tn) : (hadL N j).length <= E.k := by
  have hnd : ((hadL N j).map Int.toNat).Nodup := by
    refine List.pairwise_map.2 ((hadL_nodup hI j hj).imp_of_mem fun {a b} ha hb hne e => hne ?_)
    obtain ⟨id, h1, h2, h3⟩ := hadL_mem.1 ha
    obtain ⟨id', h1', h2', h3'⟩ := hadL_mem.1 hb
    obtain ⟨i, i1, i2, -⟩ := hI.mine id h1 (by omega) a h3
    obtain ⟨i', i1', i2', -⟩ := hI.mine id' h1' (by omega) b h3'
    omega
  have := sub_len ((hadL N j).map Int.toNat) ((List.range E.k).map fun i => E.fr + i) hnd (fun x hx => by
    obtain ⟨z, hz, rfl⟩ := List.mem_map.1 hx
    obtain ⟨id, h1, h2, h3⟩ := hadL_mem.1 hz
    obtain ⟨i, i1, i2, -⟩ := hI.mine id h1 (by omega) z h3
    exact List.mem_map.2 ⟨i, List.mem_range.2 i1, by omega⟩)
  simpa using this
theorem had_taken (hI : Ino E mem M N D) (hw : Inw E mem M N) : sortL (hadL N E.tn) = takenL (bitM mem M E.ma) E.fr E.k := by
  refine inc_ext (sortL_inc (hadL_nodup hI E.tn (Nat.le_refl _))) ?_ (fun z => ?_)
  · unfold takenL
    refine List.pairwise_map.2 ((List.pairwise_lt_range.sublist List.filter_sublist).imp fun {a b} h => ?_)
    omega
  · rw [(sortL_perm _).mem_iff, hadL_mem]
    unfold takenL
    rw [List.mem_map]
    constructor
    · rintro ⟨id, h1, h2, h3⟩
      obtain ⟨i, i1, i2, i3⟩ := hI.mine id h1 h2 z h3
      exact ⟨i, List.mem_filter.2 ⟨List.mem_range.2 i1, i3⟩, by omega⟩
    · rintro ⟨i, h1, rfl⟩
      obtain ⟨h1, h2⟩ := List.mem_filter.1 h1
      exact hw.cov i (List.mem_range.1 h1) h2
theorem equalI_calls {b1 b2 : Nat} {v1 v2 : Value} {ks : List Int} (h1 : Kept b1 w v1 ks) (h2 : Kept b2 w v2 ks) (hl : ks.length <= 1000) :
    Calls Tryz.prog 193 #[v1, v2] w fun e w' => e = .returned (.bool true) /\ Below w.heap.size w w' := by
  obtain ⟨a1, c1, rfl, hc1⟩ := h1.form
  obtain ⟨a2, c2, rfl, hc2⟩ := h2.form
  by_cases hk : ks = []
  · subst hk
    refine (Tryz.slices_Equal_int_empty a1 a2 c1 0 c2 w (by omega)).mono ?_
    rintro e w' ⟨rfl, rfl⟩
    exact ⟨rfl, Below.refl _ _⟩
  · obtain ⟨g1, rfl, -, -, hx⟩ := hc1 hk
    obtain ⟨g2, rfl, -, -, hy⟩ := hc2 hk
    refine (Tryz.slices_Equal_int g1 0 ks.length c1 g2 0 ks.length c2 ks ks w (Nat.le_refl _) (Nat.le_refl _) (by omega) (by omega) (fun j hj => by rw [Nat.zero_add]; exact hx j hj) (fun j hj => by rw [Nat.zero_add]; exact hy j hj)).mono ?_
    rintro e w' ⟨rfl, q, rfl⟩
    exact ⟨by simp, below_drewN (Below.refl _ _) q⟩
theorem fblocks_calls (hF : FsAt fb E rs hb w) (h : E.St mem writes M w) (ok : E.Ok) (hI : Ino E mem M N D) {id : Nat} (h1 : 1 <= id) (h2 : id <= E.tn) :
    Calls Tryz.prog 190 #[ptr fb, .int .i64 id] w fun e w' => ∃ v, e = .returned (.tuple #[v, .nilIface]) /\ Kept w.heap.size w' v (sortL (N id).list) /\ Below w.heap.size w w' := by
  have kK := hidden (Ino.kind h ok hI h1 h2)
  have c2 := hF.c2
  have hlt := hF.lt
  have kc2 := hidden (fun (wx : World) (hx : Below w.heap.size w wx) => (hF.below hx).c2)
  by_cases hk : (N id).kind = 0
  · have hl : (N id).list = [] := by
      rcases (hI.says id h1 h2).1.1 with ⟨-, -, e⟩ | e
      · exact e
      · omega
    rw [hl]
    have e0 : sortL [] = [] := by simp [sortL]
    rw [e0]
    rw [hk] at kK
    clear hF h ok hI hl e0
    go_enter Tryz.func190, Tryz.ntmps190
    go_wp2_with fail
    refine (kK.out).mono ?_
    rintro ev w1 ⟨rfl, hB1⟩
    have hE := hidden (And.intro (Kept.nil w.heap.size w1) hB1)
    clear hB1 kK
    go_wp2
    go_ret2
    exact ⟨_, rfl, hE.out⟩
  · have kB := hidden (fun (wx : World) (hx : Below w.heap.size w wx) => Ino.blocks (h.more hx) ok hI h1 h2 hk)
    have hk' : ¬ ((N id).kind : Int) = 0 := by omega
    generalize ((N id).kind : Int) = KK at *
    generalize sortL (N id).list = ks at *
    clear hF h ok hI
    go_enter Tryz.func190, Tryz.ntmps190
    go_wp2_with fail
    refine (kK.out).mono ?_
    rintro ev w1 ⟨rfl, hB1⟩
    have d2 := kc2.out w1 hB1
    have hlt1 : fb < w1.heap.size := lt_of_cell (a := ⟨fb, 2, none⟩) d2
    have kB1 := hidden (kB.out w1 hB1)
    replace hB1 := hidden hB1
    clear kK kB c2 kc2
    go_wp2_with fail
    refine (kB1.out).mono ?_
    rintro ev w2 ⟨v, rfl, hK, hB2⟩
    have hE := hidden (And.intro (hK.mono hB1.out.size) (hB1.out.trans (hB2.mono hB1.out.size)))
    clear hK hB2 kB1
    go_wp2
    go_ret2
    exact ⟨v, rfl, hE.out⟩
theorem covered_calls (hF : FsAt fb E rs hb w) (h : E.St mem writes M w) (ok : E.Ok) (hI : Ino E mem M N D) (hw : Inw E mem M N) (hkk : E.kk = E.k) (hk5 : E.k <= 500) :
    Calls Tryz.prog 143 #[ptr fb] w fun e w' => e = .returned .nilIface /\ Below w.heap.size w w' := by
  have htn := ok.tn
  have hfr := ok.fr
  have kB := hidden (fun (wx : World) (hx : Below w.heap.size w wx) (id : Nat) (a : 1 <= id) (b : id <= E.tn) => fblocks_calls (hF.below hx) (h.more hx) ok hI a b)
  have kA := hidden (fun (wx : World) (hx : Below w.heap.size w wx) => all_calls (h.more hx).c ok.live (h.more hx).m ok.fit (by omega) (by omega))
  have hht := hidden (had_taken hI hw)
  have hlen := hidden (hadL_len hI)
  have kF := hidden (fun (wx : World) (hx : Below w.heap.size w wx) => hF.below hx)
  rw [hkk] at kA
  have hlt := hF.lt
  generalize hTN : E.tn = tn at *
  clear hF h ok hI hw
  go_enter Tryz.func143, Tryz.ntmps143
  go_wp2_with fail
  go_loopg [3, 4] (tn + 1) (fun gk l q wr => ∃ j : Nat, j <= tn /\ gk = tn + 1 - j /\ q = .int .i64 (j + 1 : Nat) /\ Hid (Kept w.heap.size wr l (hadL N j) /\ Below w.heap.size w wr))
  case atStart => exact ⟨0, by omega, rfl, rfl, hidden ⟨Kept.nil _ _, Below.refl _ _⟩⟩
  case round =>
    obtain ⟨j, hj, hgk, rfl, hIv⟩ := hrel
    replace hgk := hidden hgk
    obtain ⟨i1, i2⟩ := hIv.out
    have hFr := kF.out wr i2
    have c3 := hFr.c3
    rw [hTN] at c3
    have c1 := hFr.c1
    have hltr := hFr.lt
    obtain ⟨la, lc, rfl, -⟩ := i1.form
    have hjl := hlen.out j hj
    by_cases hlt' : j < tn
    · have kBj := hidden (kB.out wr i2 (j + 1) (by omega) (by omega))
      have hcmp : ((j + 1 : Nat) : Int) <= (tn : Int) := by omega
      have hi1 := hidden (And.intro i1 i2)
      generalize hHL : (hadL N j).length = HL at *
      replace hHL := hidden hHL
      clear i1 i2 hIv hFr c1
      generalize hJ1 : ((j + 1 : Nat) : Int) = J1 at *
      replace hJ1 := hidden hJ1
      go_wp2_with fail
      refine (kBj.out).mono ?_
      rintro ev w3 ⟨v3, rfl, hK3, hB3⟩
      have hb3 := hi1.out.2.trans (hB3.mono hi1.out.2.size)
      obtain ⟨v4, w4, hrun, hK4, hB4⟩ : ∃ v4 w4, (Builtin.append_ #[58, 58] 58 #[.slice la HL lc, v3]).run Tryz.prog w3 = .ok v4 w4 /\ Kept w.heap.size w4 v4 (hadL N (j + 1)) /\ Below w.heap.size w3 w4 := by
        have hold := hi1.out.1.below hB3
        rw [hadL_succ]
        rcases hK3.row.2 with ⟨hv, h0⟩ | ⟨g', cap', cur, hv, h1, hh, -, -, -, -⟩
        · have he : sortL (N (j + 1)).list = [] := List.length_eq_zero_iff.1 h0
          rw [hv, he, List.append_nil]
          obtain ⟨i0, hi, hz0, hz1, hz2⟩ := info_parts3 Tryz.infoInt
          exact ⟨_, w3, run_append_owned_none (P := Tryz.prog) (w := w3) w.heap.size 58 _ 3 i0 1 Tryz.underlying58 hi _ _ _ hold.row, hold, Below.refl _ _⟩
        · obtain ⟨a2, c2, hv2, hcs2⟩ := hK3.form
          rw [hv]
          obtain ⟨v', w', q1, q2, q3, -⟩ := kept_append hold ⟨g', 0, none⟩ (sortL (N (j + 1)).list).length cap' (sortL (N (j + 1)).list) rfl (fun k hk => by
            obtain ⟨g2, e2, -, -, hc2⟩ := hcs2 (by intro e; rw [e] at hk; simp at hk)
            have e3 := (Value.slice.inj (hv.symm.trans hv2)).1
            rw [e2] at e3
            simp only [Option.some.injEq, Addr.mk.injEq] at e3
            obtain ⟨rfl, -⟩ := e3
            rw [Go.WideShapes.add_plain, Nat.zero_add]
            exact hc2 k hk) (by have := hlen.out (j + 1) (by omega); rw [hadL_succ, List.length_append] at this; omega) hb3.size 58
          exact ⟨v', w', q1, q2, q3⟩
      obtain ⟨xa, xc, hx3, -⟩ := hK3.form
      have hE := hidden (And.intro hK4 (hb3.trans hB4))
      replace hrun := hidden hrun
      subst hx3
      clear hK3 hB3 hb3 hK4 hB4 kBj hi1
      generalize (sortL (N (j + 1)).list).length = SL at *
      go_wp2_with (at_builtin; refine wpList_append_eq _ _ 58 rfl _ _ _ w4 rfl rfl hrun.out rfl ?_)
      go_roundg (tn + 1 - (j + 1))
      case measure => rw [hgk.out]; omega
      case rel => exact ⟨j + 1, hlt', rfl, by have := hJ1.out; subst this; congr 1; unfold wrap64; omega, hE⟩
    · obtain rfl : j = tn := by omega
      have kS := hidden (isort_calls i1 (by omega))
      have hi2 := hidden i2
      have hcmp : ¬ ((j + 1 : Nat) : Int) <= (j : Int) := by omega
      generalize hHL : (hadL N j).length = HL at *
      replace hHL := hidden hHL
      clear i1 i2 hIv hFr c1
      generalize hJ1 : ((j + 1 : Nat) : Int) = J1 at *
      replace hJ1 := hidden hJ1
      go_wp2_with fail
      refine (kS.out).mono ?_
      rintro ev w3 ⟨rfl, hK3, -, hB3⟩
      have hb3 := hi2.out.trans hB3
      have kA3 := hidden (kA.out w3 hb3)
      have hF3 := kF.out w3 hb3
      have c1 := hF3.c1
      have hlt3 := hF3.lt
      rw [hht.out] at hK3
      replace hK3 := hidden hK3
      replace hb3 := hidden hb3
      clear hB3 kS hF3
      go_wp2_with fail
      refine (kA3.out).mono ?_
      rintro ev w4 ⟨v4, rfl, hK4, hB4⟩
      have kE := hidden (equalI_calls (hK3.out.below hB4) hK4 (by have := takenL_len (bitM mem M E.ma) E.fr E.k; omega))
      have hb4 := hidden (hb3.out.trans (hB4.mono hb3.out.size))
      obtain ⟨xa, xc, rfl, -⟩ := hK4.form
      clear hK4 hB4 kA3 c1
      generalize (takenL (bitM mem M E.ma) E.fr E.k).length = TL at *
      go_wp2_with fail
      refine (kE.out).mono ?_
      rintro ev w5 ⟨rfl, hB5⟩
      have hE := hidden (hb4.out.trans (hB5.mono hb4.out.size))
      clear hB5 kE
      go_wp2
      go_ret
      exact ⟨rfl, hE.out⟩
end
section
variable {fb rs hb : Nat} {E : TE} {w w' : World} {K : Nat -> Nat} {D : Nat -> List Int} {T : Nat -> List Rec} {f u lim : Nat}
theorem named_calls (hF : FsAt fb E rs hb w) (h : S8 E K D f u lim w) (ok : E.Ok) (ht : TreeOk E.tn K D T) (htn1 : 1 <= E.tn) {lv : List (List Nat)} (hlv : LvOk K T E.tn 1 lv) (hl7 : lv.length <= 7) :
    Calls Tryz.prog 142 #[ptr fb] w fun e w' => ∃ sb, e = .returned (.tuple #[.slice (some ⟨sb, 0, none⟩) (E.tn + 1) (E.tn + 1), .nilIface]) /\ SnOwn w.heap.size w' sb (E.tn + 1) (fun i => decide (i ∈ lv.flatten)) /\ Below w.heap.size w w' := by
  have htn := ok.tn
  have kK := hidden (S8.kind ok h (Nat.le_refl 1) htn1)
  rw [ht.root] at kK
  have kL := hidden (fun (wx : World) (hx : Below w.heap.size w wx) => levels_calls (hF.below hx) (h.more hx) ok ht (Nat.le_refl 1) htn1 hlv)
  rw [ht.root] at kL
  have kF := hidden (fun (wx : World) (hx : Below w.heap.size w wx) => hF.below hx)
  have c2 := hF.c2
  have hlt := hF.lt
  have hlen := hlv.len
  replace hlv := hidden hlv
  clear hF h ok ht
  generalize hTN : E.tn = tn at *
  generalize hLV : lv.length = LV at *
  replace hLV := hidden hLV
  go_enter Tryz.func142, Tryz.ntmps142
  go_wp2_with fail
  refine (kK.out).mono ?_
  rintro ev w1 ⟨rfl, hB1⟩
  have kL1 := hidden (kL.out w1 hB1)
  replace hB1 := hidden hB1
  clear kK kL
  go_wp2_with fail
  refine (kL1.out).mono ?_
  rintro ev w2 ⟨v2, rfl, hL2, hB2⟩
  have hb2 : Below w.heap.size w w2 := hB1.out.trans (hB2.mono hB1.out.size)
  have hF2 := kF.out w2 hb2
  have c3 := hF2.c3
  rw [hTN] at c3
  have hlt2 := hF2.lt
  have hmk := make_bools (tn + 1) (by omega) w2
  obtain ⟨w3, hw3, hB3, hS3⟩ : ∃ w3, w2.alloc (.cells (madeCells (Value.bool false).cells ((tn + 1) * 1)) 4) = w3 /\ Below w2.heap.size w2 w3 /\ SnOwn w1.heap.size w3 w2.heap.size (tn + 1) (fun _ => false) := ⟨_, rfl, (Below.refl _ _).alloc (Nat.le_refl _) _, snOwn_new _ (by omega) hB2.size⟩
  rw [hw3] at hmk
  have hL3 := hidden (hL2.below hB3)
  have hS3h := hidden hS3
  have hb3 := hidden (hb2.trans (hB3.mono hb2.size))
  have hs1 := hidden hB1.out.size
  have hs2 := hidden hB2.size
  obtain ⟨va, vc, rfl, -⟩ := hL2.form
  rw [hLV.out] at hL3 ⊢
  generalize hsb : w2.heap.size = sb at *
  clear hL2 hB2 hb2 hF2 hB3 hS3 kL1
  have hmk' : (Instr.makeSlice 173 (.int .i64 ((tn : Int) + 1)) (.int .i64 ((tn : Int) + 1))).run Tryz.prog w2 = .ok (.slice (some ⟨sb, 0, none⟩) (tn + 1) (tn + 1)) w3 := hmk
  clear hmk
  go_wp2_with fail
  go_loopg [53] (LV + 1) (fun gk q wr => ∃ j : Nat, j <= LV /\ gk = LV + 1 - j /\ q = .int .i64 j /\ Hid (SnOwn w1.heap.size wr sb (tn + 1) (fun i => decide (i ∈ (lv.take j).flatten)) /\ Apart [sb] w3 wr))
  case atStart => exact ⟨0, by omega, rfl, rfl, hidden ⟨hS3h.out.congr (fun i _ => by simp), Apart.refl _ _⟩⟩
  case round =>
    obtain ⟨j, hj, hgkO, rfl, hIO⟩ := hrel
    replace hgkO := hidden hgkO
    by_cases hltj : j < LV
    · obtain ⟨i1, i2⟩ := hIO.out
      obtain ⟨l, hl⟩ : ∃ l, lv[j]? = some l := ⟨_, List.getElem?_eq_getElem (by have := hLV.out; omega)⟩
      have hLr := hL3.out.apartS hS3h.out i2
      obtain ⟨a', c', hv', hcs⟩ := hLr.form
      obtain ⟨rfl, -, rfl⟩ := Value.slice.inj hv'
      obtain ⟨g, rfl, hg, hcell⟩ := hcs (by intro e; rw [e] at hl; simp at hl)
      obtain ⟨xv, cx, hxl⟩ := hcell j l hl
      obtain ⟨xa, xc, rfl, -⟩ := hxl.form
      have hll : l.length <= 200 := by
        have := hlv.out.flen (j + 1)
        rw [flat_take, hl, List.length_append] at this
        have e : ((some l).getD []).length = l.length := rfl
        omega
      have hxl' := hidden hxl
      have hi1 := hidden (And.intro i1 i2)
      have hjI : (j : Int) < (LV : Int) := by omega
      have hlm := hidden (fun y (hy : y ∈ l) => hlv.out.inn y (List.mem_flatten.2 ⟨l, List.mem_of_getElem? hl, hy⟩))
      clear hLr hcs hcell i1 i2 hIO hxl hv'
      generalize hLN : l.length = LN at *
      replace hLN := hidden hLN
      rename World => wr0
      go_wp2_with fail
      go_loopg [59] (LN + 1) (fun gk q wr => ∃ m : Nat, m <= LN /\ gk = LN + 1 - m /\ q = .int .i64 m /\ Hid (SnOwn w1.heap.size wr sb (tn + 1) (fun i => decide (i ∈ (lv.take j).flatten ++ l.take m)) /\ Apart [sb] wr0 wr))
      case atStart => exact ⟨0, by omega, rfl, rfl, hidden ⟨hi1.out.1.congr (fun i _ => by simp), Apart.refl _ _⟩⟩
      case round =>
        obtain ⟨m, hm, hgk, rfl, hI⟩ := hrel
        replace hgk := hidden hgk
        by_cases hltm : m < LN
        · obtain ⟨i1, i2⟩ := hI.out
          obtain ⟨y, hy⟩ : ∃ y, l[m]? = some y := ⟨_, List.getElem?_eq_getElem (by have := hLN.out; omega)⟩
          obtain ⟨y1, y2⟩ := hlm.out y (List.mem_of_getElem? hy)
          have hxr := hxl'.out.apartS hi1.out.1 i2
          obtain ⟨a2, c2', hv2, hcs2⟩ := hxr.form
          obtain ⟨rfl, -, rfl⟩ := Value.slice.inj hv2
          obtain ⟨g2, rfl, hg2, hcell2⟩ := hcs2 (by intro e; rw [e] at hy; simp at hy)
          obtain ⟨d0, d1⟩ := hcell2 m y hy
          obtain ⟨w9, hw9, hB9, hN9⟩ : ∃ w9, wr.alloc (.cells #[.int .i64 (y : Nat), .int .i64 (K y : Nat)] 105) = w9 /\ Below wr.heap.size wr w9 /\ FnAt w9 wr.heap.size (y : Nat) (K y : Nat) := ⟨_, rfl, (Below.refl _ _).alloc (Nat.le_refl _) _, fn_new _ _ _⟩
          have n0 := hN9.c0
          have hlt9 := hN9.lt
          have i1' := i1.below hB9
          have hlts := i1'.lt.2
          have cS := i1'.cell y (by omega)
          have fS := i1'.free y
          have hE := hidden (show SnOwn w1.heap.size (w9.setCell ⟨sb, y, none⟩ (.bool true)) sb (tn + 1) (fun i => decide (i ∈ (lv.take j).flatten ++ l.take (m + 1))) /\ Apart [sb] wr0 (w9.setCell ⟨sb, y, none⟩ (.bool true)) from by
            refine ⟨(i1'.set y true).congr (fun i _ => ?_), (i2.trans (Apart.of_below hB9)).setCell (p := ⟨sb, y, none⟩) (by simp) _⟩
            have e : l.take (m + 1) = l.take m ++ [y] := by rw [List.take_add_one, hy]; rfl
            rw [e, <- List.append_assoc]
            by_cases hi : i = y
            · subst hi; simp
            · simp [hi])
          have hmI : (m : Int) < (LN : Int) := by omega
          generalize hbS : decide (y ∈ (lv.take j).flatten ++ l.take m) = bS at cS
          replace hbS := hidden hbS
          clear i1 i2 i1' hI hcs2 hcell2 hB9 hN9 hxr hv2
          generalize ((K y : Nat) : Int) = KY at *
          replace hw9 := hidden hw9
          go_upto_region 18 with fail
          rw [hw9.out]
          clear hw9
          go_wp2
          go_roundg (LN + 1 - (m + 1))
          case measure => rw [hgk.out]; omega
          case rel => exact ⟨m + 1, hltm, rfl, by go_num, hE⟩
        · obtain rfl : m = LN := by omega
          have htk : l.take m = l := List.take_of_length_le (by have := hLN.out; omega)
          have hE := hidden (show SnOwn w1.heap.size wr sb (tn + 1) (fun i => decide (i ∈ (lv.take (j + 1)).flatten)) /\ Apart [sb] w3 wr from ⟨hI.out.1.congr (fun i _ => by rw [flat_take, hl, htk]; rfl), hi1.out.2.trans hI.out.2⟩)
          clear hI
          go_wp2
          go_roundg (LV + 1 - (j + 1))
          case measure => rw [hgkO.out]; omega
          case rel => exact ⟨j + 1, hltj, rfl, by go_num, hE⟩
    · obtain rfl : j = LV := by omega
      have htk : lv.take j = lv := List.take_of_length_le (by have := hLV.out; omega)
      rw [htk] at hIO
      have hE := hidden (show SnOwn w.heap.size wr sb (tn + 1) (fun i => decide (i ∈ lv.flatten)) /\ Below w.heap.size w wr from
        ⟨⟨⟨hIO.out.1.row.1, by
          rcases hIO.out.1.row.2 with h2 | ⟨g', cap', cur, hv, h1, rest⟩
          · exact .inl h2
          · exact .inr ⟨g', cap', cur, hv, Nat.le_trans hs1.out h1, rest⟩⟩⟩, hb3.out.trans (hIO.out.2.below (by simp; have := hs1.out; have := hs2.out; omega) hb3.out.size)⟩)
      clear hIO
      go_wp2
      go_ret2
      exact ⟨sb, rfl, hE.out⟩
theorem beyond_none (hF : FsAt fb E rs hb w) (h : S8 E K D f u lim w) (ok : E.Ok) {sb : Nat} {S : Nat -> Bool} {base : Nat} (hS : SnOwn base w sb (E.tn + 1) S) (hall : ∀ id, 1 <= id -> id <= E.tn -> K id ≠ 0 -> S id = true) :
    Calls Tryz.prog 144 #[ptr fb, .slice (some ⟨sb, 0, none⟩) (E.tn + 1) (E.tn + 1)] w fun e w' => e = .returned (.tuple #[.slice none 0 0, .nilIface]) /\ Below w.heap.size w w' := by
  have htn := ok.tn
  have kK := hidden (fun (wx : World) (hx : Below w.heap.size w wx) (id : Nat) (a : 1 <= id) (b : id <= E.tn) => S8.kind ok (h.more hx) a b)
  have kF := hidden (fun (wx : World) (hx : Below w.heap.size w wx) => hF.below hx)
  have kS := hidden (fun (wx : World) (hx : Below w.heap.size w wx) => hS.below hx)
  have hlt := hF.lt
  replace hall := hidden hall
  clear hF h ok hS
  generalize hTN : E.tn = tn at *
  go_enter Tryz.func144, Tryz.ntmps144
  go_wp2_with fail
  go_loopg [6, 7] (tn + 1) (fun gk l q wr => ∃ j : Nat, j <= tn /\ gk = tn + 1 - j /\ l = .slice none 0 0 /\ q = .int .i64 (j + 1 : Nat) /\ Hid (Below w.heap.size w wr))
  case atStart => exact ⟨0, by omega, rfl, rfl, rfl, hidden (Below.refl _ _)⟩
  case round =>
    obtain ⟨j, hj, hgk, rfl, rfl, hI⟩ := hrel
    replace hgk := hidden hgk
    have hFr := kF.out wr hI.out
    have c3 := hFr.c3
    rw [hTN] at c3
    have c2 := hFr.c2
    have hltr := hFr.lt
    by_cases hlt' : j < tn
    · have kKj := hidden (kK.out wr hI.out (j + 1) (by omega) (by omega))
      have hcmp : ((j + 1 : Nat) : Int) <= (tn : Int) := by omega
      have hSw := kS.out
      generalize hJ1 : ((j + 1 : Nat) : Int) = J1 at *
      have hJ1' := hidden hJ1
      clear hFr hJ1
      go_wp2_with fail
      refine (kKj.out).mono ?_
      rintro ev w3 ⟨rfl, hB3⟩
      have hb3 := hidden (hI.out.trans (hB3.mono hI.out.size))
      have hS3 := hSw w3 hb3.out
      have cS := hS3.cell (j + 1) (by omega)
      have hltS := hS3.lt.2
      clear hB3 kKj hS3 hSw
      by_cases hk : K (j + 1) = 0
      · rw [hk]
        have hE := hidden hb3.out
        clear cS
        go_wp2
        go_roundg (tn + 1 - (j + 1))
        case measure => rw [hgk.out]; omega
        case rel => exact ⟨j + 1, hlt', rfl, rfl, by have := hJ1'.out; subst this; first | (congr 1; unfold wrap64; omega) | go_num | rfl, hE⟩
      · rw [hall.out (j + 1) (by omega) (by omega) hk] at cS
        have hk' : ¬ ((K (j + 1) : Nat) : Int) = 0 := by omega
        generalize ((K (j + 1) : Nat) : Int) = KK at *
        have hJn : Hid (J1 = ((j + 1 : Nat) : Int)) := hidden hJ1'.out.symm
        have hj0 : ¬ J1 < 0 := by have := hJn.out; omega
        have hjt : J1.toNat = j + 1 := by have := hJn.out; omega
        have hjb : J1 < (tn : Int) + 1 := by omega
        have hE := hidden hb3.out
        go_wp2
        go_roundg (tn + 1 - (j + 1))
        case measure => rw [hgk.out]; omega
        case rel => exact ⟨j + 1, hlt', rfl, rfl, by have := hJ1'.out; subst this; first | (congr 1; unfold wrap64; omega) | go_num | rfl, hE⟩
    · obtain rfl : j = tn := by omega
      have hcmp : ¬ ((j + 1 : Nat) : Int) <= (j : Int) := by omega
      generalize hJ1 : ((j + 1 : Nat) : Int) = J1 at *
      have hJ1' := hidden hJ1
      clear hFr hJ1 c2
      go_wp2
      go_ret2
      exact ⟨rfl, hI.out⟩
end
def sCheck : ByteArray := ⟨#[99, 104, 101, 99, 107]⟩
structure Sound (K : Nat -> Nat) (T : Nat -> List Rec) (tn : Nat) (lv : List (List Nat)) : Prop where
  ok : LvOk K T tn 1 lv
  deep : lv.length <= 7
  all : ∀ id, 1 <= id -> id <= tn -> K id ≠ 0 -> id ∈ lv.flatten
section
variable {fb rs hb : Nat} {E : TE} {w w' : World} {K : Nat -> Nat} {D : Nat -> List Int} {T : Nat -> List Rec} {f u lim : Nat} {lv : List (List Nat)}
theorem nameless1_ok {b0 b1 : Nat} (g0 : w.cell? ⟨b0, 0, none⟩ = some (ptr fb)) (g1 : w.cell? ⟨b1, 0, none⟩ = some (.slice none 0 0)) (f1 : w.frozen? ⟨b1, 0, none⟩ = false) (hF : FsAt fb E rs hb w) (h : S8 E K D f u lim w) (ok : E.Ok) (ht : TreeOk E.tn K D T) (htn1 : 1 <= E.tn) (hs : Sound K T E.tn lv) (hkk : E.kk = E.k) (hk5 : E.k <= 500) :
    Calls Tryz.prog 141 #[ptr b0, ptr b1] w fun e w' => e = .returned .nilIface /\ ∃ w2, Below w.heap.size w w2 /\ w' = w2.setCell ⟨b1, 0, none⟩ (.slice none 0 0) := by
  have kN := hidden (named_calls hF h ok ht htn1 hs.ok hs.deep)
  have kC := hidden (fun (wx : World) (hx : Below w.heap.size w wx) => show Calls Tryz.prog 143 #[ptr fb] wx fun e w' => e = .returned .nilIface /\ Below wx.heap.size wx w' from by
    obtain ⟨mem, wr, M, N, q1, q2, q3, q4, q5, q6, q7, q8⟩ := h.more hx
    exact covered_calls (hF.below hx) q1 ok q2 q8 hkk hk5)
  have kB := hidden (fun (wx : World) (hx : Below w.heap.size w wx) (sb base : Nat) (hS : SnOwn base wx sb (E.tn + 1) (fun i => decide (i ∈ lv.flatten))) => beyond_none (hF.below hx) (h.more hx) ok hS (fun id a b c => decide_eq_true (hs.all id a b c)))
  have hl0 := lt_of_cell (a := ⟨b0, 0, none⟩) g0
  have hl1 := lt_of_cell (a := ⟨b1, 0, none⟩) g1
  have k0 := hidden (fun (wx : World) (hx : Below w.heap.size w wx) => (hx.cell (p := ⟨b0, 0, none⟩) hl0).trans g0)
  have k1 := hidden (fun (wx : World) (hx : Below w.heap.size w wx) => And.intro ((hx.cell (p := ⟨b1, 0, none⟩) hl1).trans g1) (((Apart.of_below (bs := []) hx).frozen (p := ⟨b1, 0, none⟩) hl1 (by simp)).trans f1))
  clear hF h ok ht hs g1 f1
  generalize hTN : E.tn = tn at *
  go_enter Tryz.func141, Tryz.ntmps141
  go_wp2_with fail
  refine (kN.out).mono ?_
  rintro ev w1 ⟨sb, rfl, hS1, hB1⟩
  have e0 := k0.out w1 hB1
  have hl01 := lt_of_cell (a := ⟨b0, 0, none⟩) e0
  have kC1 := hidden (kC.out w1 hB1)
  replace hS1 := hidden hS1
  replace hB1 := hidden hB1
  clear kN kC g0
  go_wp2_with fail
  refine (kC1.out).mono ?_
  rintro ev w2 ⟨rfl, hB2⟩
  have hb2 := hB1.out.trans (hB2.mono hB1.out.size)
  have d0 := k0.out w2 hb2
  have hl02 := lt_of_cell (a := ⟨b0, 0, none⟩) d0
  have kB2 := hidden (kB.out w2 hb2 sb _ (hS1.out.below hB2))
  replace hb2 := hidden hb2
  clear hB2 kC1 kB e0 hS1 hB1
  go_wp2_with fail
  refine (kB2.out).mono ?_
  rintro ev w3 ⟨rfl, hB3⟩
  have hb3 := hb2.out.trans (hB3.mono hb2.out.size)
  obtain ⟨e1, f1⟩ := k1.out w3 hb3
  have hl13 := lt_of_cell (a := ⟨b1, 0, none⟩) e1
  replace hb3 := hidden hb3
  clear hB3 kB2
  go_wp2
  go_ret
  exact ⟨rfl, w3, hb3.out, rfl⟩
theorem ent_nameless1 : ∀ (args : Array Value) (w : World), (callFunc 141 args).run Tryz.prog w = .ok (.enter 141 args) w := enters_of Tryz.func141 (by kernel_rfl) rfl
theorem boxesN (w : World) (fb : Nat) : ∃ w2, (w.alloc (Obj.cells #[ptr fb] 31)).alloc (Obj.cells #[.slice none 0 0] 58) = w2 /\ Below w.heap.size w w2 /\ w2.cell? ⟨w.heap.size, 0, none⟩ = some (ptr fb) /\ w2.cell? ⟨w.heap.size + 1, 0, none⟩ = some (.slice none 0 0) /\ w2.frozen? ⟨w.heap.size + 1, 0, none⟩ = false := by
  generalize e1 : w.alloc (Obj.cells #[ptr fb] 31) = W1
  have a1 : W1.cell? ⟨w.heap.size, 0, none⟩ = some (ptr fb) := by rw [<- e1]; simp
  have s1 : W1.heap.size = w.heap.size + 1 := by rw [<- e1]; simp
  have b1 : Below w.heap.size w W1 := by rw [<- e1]; exact (Below.refl _ _).alloc (Nat.le_refl _) _
  have hBx : Below W1.heap.size W1 (W1.alloc (Obj.cells #[.slice none 0 0] 58)) := (Below.refl _ _).alloc (Nat.le_refl _) _
  exact ⟨_, rfl, b1.trans (hBx.mono b1.size), (hBx.cell (p := ⟨w.heap.size, 0, none⟩) (lt_of_cell a1)).trans a1, by rw [<- s1]; simp, by rw [<- s1]; simp⟩
theorem nameless_via {Q : Value -> Value -> World -> Prop} (k : ∀ (wx : World) (c0 c1 : Nat), Below w.heap.size w wx -> w.heap.size <= c1 -> c1 < wx.heap.size -> wx.cell? ⟨c0, 0, none⟩ = some (ptr fb) -> wx.cell? ⟨c1, 0, none⟩ = some (.slice none 0 0) -> wx.frozen? ⟨c1, 0, none⟩ = false -> Calls Tryz.prog 54 #[ptr fb, .func (.func 141) #[] #[ptr c0, ptr c1]] wx fun e w' => ∃ ev v, e = .returned ev /\ w'.cell? ⟨c1, 0, none⟩ = some v /\ Q v ev w') :
    Calls Tryz.prog 82 #[ptr fb] w fun e w' => ∃ v ev, e = .returned (.tuple #[v, ev]) /\ Q v ev w' := by
  have hmf : ∀ (fn : Fn) (first cap : Array Value) (w : World), (Instr.makeFunc fn first cap).run Tryz.prog w = .ok (.func fn first cap) w := fun _ _ _ _ => rfl
  obtain ⟨w2, hw2, hB2, g0, g1, f1⟩ := boxesN w fb
  have hl1 := lt_of_cell (a := ⟨w.heap.size + 1, 0, none⟩) g1
  have kk := hidden (k w2 w.heap.size (w.heap.size + 1) hB2 (by omega) hl1 g0 g1 f1)
  replace hw2 := hidden hw2
  clear k hB2 g1 f1
  go_enter Tryz.func82, Tryz.ntmps82
  go_upto_region 2 with fail
  rw [hw2.out]
  clear hw2
  go_wp2_with fail
  refine (kk.out).mono ?_
  rintro ev w3 ⟨er, v, rfl, hv, hQ⟩
  have hl3 := lt_of_cell (a := ⟨w.heap.size + 1, 0, none⟩) hv
  replace hQ := hidden hQ
  go_wp2
  go_ret2
  exact ⟨v, er, rfl, hQ.out⟩
theorem nameless_ok (h : Fsz fb rs hb E K D T f lim w) (hs : Sound K T E.tn lv) (hk5 : E.k <= 500) (hlim : lim <= 300000000) :
    Calls Tryz.prog 82 #[ptr fb] w fun e w' => ∃ v ev, e = .returned (.tuple #[v, ev]) /\ v = .slice none 0 0 /\ ev = .nilIface /\ Fsz fb rs hb E.rest K D T f (lim + 1000) w' /\ E.Turns fb w w' := by
  have hpl := h.pl
  have hah := h.s.to.lts
  have hfar := h.far
  refine nameless_via (Q := fun v ev w' => v = .slice none 0 0 /\ ev = .nilIface /\ Fsz fb rs hb E.rest K D T f (lim + 1000) w' /\ E.Turns fb w w') (fun wx c0 c1 hx hc1 hc1x g0 g1 f1 => ?_)
  have hr := h.rest.below hx
  have kA := nameless1_ok (E := E.rest) (K := K) (D := D) (T := T) (f := f) (u := 0) (lim := lim) g0 g1 f1 hr.at_ hr.s.to hpl.rest_ok hr.tree hpl.tn1 hs hpl.kk.symm hk5
  refine (step_ok (E := E.rest) (P := fun w1 => ∃ w2, Below wx.heap.size wx w2 /\ w1 = w2.setCell ⟨c1, 0, none⟩ (.slice none 0 0)) (K := K) (D := D) (f := f) (u := 0) (lim := lim) ent_nameless1 hr.at_ hfar hpl.rest_ok hpl.far hpl.live (by show 1 <= E.most /\ E.most <= 200; rw [hpl.most]; omega) hlim (kA.mono ?_)).mono ?_
  · rintro e w1 ⟨rfl, w2, r2, rfl⟩
    have hb : Below w.heap.size w (w2.setCell ⟨c1, 0, none⟩ (.slice none 0 0)) := (hx.trans (r2.mono hx.size)).setCell (p := ⟨c1, 0, none⟩) hc1 _
    have hz := h.rest.below hb
    exact ⟨rfl, ⟨w2, r2, rfl⟩, hz.at_, hz.s.to⟩
  · rintro e w3 ⟨rfl, w1, ⟨w2, r2, rfl⟩, hF3, hS3, hA3⟩
    have hb : Below w.heap.size w (w2.setCell ⟨c1, 0, none⟩ (.slice none 0 0)) := (hx.trans (r2.mono hx.size)).setCell (p := ⟨c1, 0, none⟩) hc1 _
    have hcv : (w2.setCell ⟨c1, 0, none⟩ (.slice none 0 0)).cell? ⟨c1, 0, none⟩ = some (.slice none 0 0) := World.cell?_setCell_same' _ _ _ (by rw [(r2.cell (p := ⟨c1, 0, none⟩) hc1x).trans g1]; rfl)
    unfold TE.Ahead at hah
    have hno : ∀ k ∈ [E.d, E.g, E.mb], k < w.heap.size := fun k hk => by
      simp only [List.mem_cons, List.not_mem_nil, or_false] at hk
      omega
    have hA3' : Apart [E.d, E.g, E.mb] (w2.setCell ⟨c1, 0, none⟩ (.slice none 0 0)) w3 := hA3
    refine ⟨_, _, rfl, (hA3'.cell (p := ⟨c1, 0, none⟩) (lt_of_cell (a := ⟨c1, 0, none⟩) hcv) (fun hm => by have := hno _ hm; simp only at this; omega)).trans hcv, rfl, rfl, ⟨hF3, hS3, hpl.at _ _ _ _ _, hfar, h.tree⟩, ?_⟩
    exact (Apart.of_below hb).trans (hA3'.mono (fun x hx' _ => by
        simp only [List.mem_cons, List.not_mem_nil, or_false] at hx'
        rcases hx' with rfl | rfl | rfl <;> simp))
theorem indexF_nil (fv : Value) : Calls Tryz.prog 145 #[.slice none 0 0, fv] w fun e w' => e = .returned (.int .i64 (-1)) /\ w' = w := by
  go_enter Tryz.func145, Tryz.ntmps145
  go_wp2_with fail
  go_loopg [8] 1 (fun gk q wr => gk = 1 /\ q = .int .i64 0 /\ wr = w)
  case atStart => exact ⟨rfl, rfl, rfl⟩
  case round =>
    obtain ⟨-, rfl, rfl⟩ := hrel
    go_wp2
    go_ret
    exact ⟨rfl, rfl⟩
theorem containsF_nil (fv : Value) : Calls Tryz.prog 83 #[.slice none 0 0, fv] w fun e w' => e = .returned (.bool false) /\ w' = w := by
  have k := hidden (indexF_nil (w := w) fv)
  go_enter Tryz.func83, Tryz.ntmps83
  go_wp2_with fail
  refine (k.out).mono ?_
  rintro ev w1 ⟨rfl, hw1⟩
  subst w1
  go_wp2
  go_ret
  exact ⟨rfl, rfl⟩
theorem fcheck_ok (h : Fsz fb rs hb E K D T f lim w) (hs : Sound K T E.tn lv) (hk5 : E.k <= 500) (hlim : lim <= 300000000) :
    Calls Tryz.prog 42 #[ptr fb] w fun e w' => e = .returned .nilIface /\ Fsz fb rs hb E.rest K D T f (lim + 1000) w' /\ E.Turns fb w w' := by
  have hmf : ∀ (fn : Fn) (first cap : Array Value) (w : World), (Instr.makeFunc fn first cap).run Tryz.prog w = .ok (.func fn first cap) w := fun _ _ _ _ => rfl
  obtain ⟨w1, hw1, hB1, c1⟩ : ∃ w1, w.alloc (.cells #[ptr fb] 31) = w1 /\ Below w.heap.size w w1 /\ w1.cell? ⟨w.heap.size, 0, none⟩ = some (ptr fb) := ⟨_, rfl, (Below.refl _ _).alloc (Nat.le_refl _) _, by simp⟩
  have hl1 := lt_of_cell (a := ⟨w.heap.size, 0, none⟩) c1
  have kN := hidden (nameless_ok (h.below hB1) hs hk5 hlim)
  have kCo := hidden (fun (wx : World) (fv : Value) => containsF_nil (w := wx) fv)
  replace hB1 := hidden hB1
  clear h hs
  go_enter Tryz.func42, Tryz.ntmps42
  go_wp2_with fail
  refine (kN.out).mono ?_
  rintro ev w2 ⟨v, er, rfl, rfl, rfl, h2, h3⟩
  have hE := hidden (And.intro h2 ((Apart.of_below (bs := [E.d, E.g, E.mb, fb]) hB1.out).trans h3))
  clear h2 h3 kN
  go_wp2_with fail
  refine (kCo.out _ _).mono ?_
  rintro ev w3 ⟨rfl, hw3⟩
  subst w3
  go_wp2
  go_ret
  exact ⟨rfl, hE.out⟩
theorem fCheck_ok (h : Fsz fb rs hb E K D T f lim w) (hs : Sound K T E.tn lv) (hk5 : E.k <= 500) (hlim : lim <= 300000000) :
    Calls Tryz.prog 16 #[ptr fb] w fun e w' => e = .returned .nilIface /\ Fsz fb rs hb E.rest K D T f (lim + 1000) w' /\ E.Turns fb w w' := by
  have k := hidden (fcheck_ok h hs hk5 hlim)
  have kW := hidden (fun (wx : World) => wrap_nil sCheck ⟨#[]⟩ wx)
  unfold sCheck at kW
  clear h hs
  go_enter Tryz.func16, Tryz.ntmps16
  go_wp2_with fail
  refine (k.out).mono ?_
  rintro ev w1 ⟨rfl, hQ⟩
  replace hQ := hidden hQ
  go_wp2_with fail
  refine (kW.out _).mono ?_
  rintro ev w2 ⟨rfl, hw2⟩
  subst w2
  go_wp2
  go_ret
  exact ⟨rfl, hQ.out⟩
end
end Go.Proofs.YtpofmiecjkghgaaGreatDoor
