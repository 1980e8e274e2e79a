/- The Cache's Changed and Drop. -/
import Derived.Test.YtpofmiecjkghgaaGreatDoorGCap
import Derived.Test.YtpofmiecjkghgaaGreatDoorShelf2
namespace Go.Proofs.YtpofmiecjkghgaaGreatDoor
open Go.RowKit Go.Extern.Stop Go.Stop Go.Extern Go.Maps Go.Sort Go.Shelf
set_option maxRecDepth 100000
set_option maxHeartbeats 4000000
theorem sortsA (m : Nat) : AnyZI.SortsIn Tryz.prog Tryz.sortedA_ren Fence.wide m :=
  ⟨fun blk off cap ss W hH hblk hsz => callsIn_wide.2 (AnyM.slices_Sort_int Tryz.sortA blk off cap ss W hH hblk hsz),
   fun p cap W => callsIn_wide.2 (AnyM.slices_Sort_int_none Tryz.sortA p cap W)⟩
structure Told (base : Nat) (w : World) (v : Value) (M : Chg) : Prop where
  row : w.ownsRow base 3 1 v M.length ((M.map (·.1)).map encZ)
  nil : v = .slice none 0 0 <-> M = []
theorem changed_calls {cb jb mb : Nat} {blocks : Int} {M : Chg} {w : World} (hc : CAt cb jb mb blocks w) (hm : MapAt w mb M) (hl : M.length <= 1000000) :
    Calls Tryz.prog 208 #[ptr cb] w fun e w' => ∃ v, e = .returned v /\ Told w.heap.size w' v M /\ Below w.heap.size w w' := by
  refine (callsIn_wide (n := 6)).1 ?_
  have h2 := hc.c2
  have hbl := hm.lt
  have hown := hm.own
  have hseq : SeqGives Fence.wide 2 Tryz.prog 307 #[.pointer (some ⟨w.heap.size, 0, none⟩)] encZ (fun ss => ss.Perm (intKeys (datM M))) (Maps.size (datM M)) (w.alloc (.cells #[.map (some mb)] 211)) :=
    AnyZI.keys_gives (ρ := Tryz.keysA_ren) { Tryz.keysA with } Fence.wide _ trivial rfl (by omega) w.heap.size mb M.length (datM M) _ (by simp) (by simp) (by
      obtain ⟨es, clock, hb, Ft, hs, hD⟩ := hown
      exact ⟨es, clock, (Below.heap_alloc _ _ mb hbl).trans hb, Ft, hs, hD⟩)
  have cK : ∀ m W, CallsIn Fence.wide 5 Tryz.prog 260 #[.map m] W fun e w' => e = .returned (.func (.func 307) #[] #[.pointer (some ⟨W.heap.size, 0, none⟩)]) /\ w' = W.alloc (.cells #[.map m] 211) := fun m W => AnyZI.keys_in Tryz.keysA Fence.wide 5 trivial rfl m W
  have cS := AnyZI.sorted_in Tryz.sortedA Fence.wide 5 trivial trivial trivial trivial rfl (by omega) (sortsA _) (enters_of Tryz.func191 (by kernel_rfl) rfl) 307 #[.pointer (some ⟨w.heap.size, 0, none⟩)] trivial (enters_of Tryz.func307 (by kernel_rfl) rfl) _ _ (by rw [size_dat]; unfold maxLen; omega) (by rw [size_dat]; omega) _ hseq
  change CallsIn _ _ Tryz.prog 259 _ _ _ at cS
  have hfK : Fence.wide.fn 260 := trivial
  have hfS : Fence.wide.fn 259 := trivial
  have hup := hm.tidy.up
  clear hm hc hseq hown
  refine callsIn_of_wp Tryz.func208 rfl trivial ?_ rfl
  simp only [Tryz.ntmps208, List.size_toArray, List.length_cons, List.length_nil, Nat.reduceAdd, Nat.reduceSub, Array.replicate_succ, Array.replicate_zero, List.push_toArray, List.append_toArray, List.nil_append, List.cons_append]
  gi_wp2_with (first
    | (gi_at_call 260; refine (cK _ _).mono ?_; rintro e w' ⟨rfl, rfl⟩)
    | (gi_at_call 259; refine cS.mono ?_; rintro e w' ⟨v, ss, rfl, hS, hrow, hnil, hb⟩))
  go_ret
  rw [keys_dat] at hS
  have hlen : ss.length = M.length := by rw [hS.length_eq]; simp
  have hsort : ss.mergeSort (fun x y => decide (x <= y)) = M.map (·.1) := (mergeSort_of_perm_i hS).trans (keys_sorted hup)
  rw [hsort, hlen] at hrow
  refine ⟨v, rfl, ⟨ownsRow_base_a hrow (by simp), ?_⟩, ((Below.refl _ w).alloc (Nat.le_refl _) _).trans (hb.mono (by simp))⟩
  rw [hnil]
  exact ⟨fun e => by rw [e] at hlen; exact List.length_eq_zero_iff.1 hlen.symm, fun e => by rw [e] at hlen; exact List.length_eq_zero_iff.1 hlen⟩
theorem run_clear_map {w : World} {b : Nat} {M : Chg} (h : MapAt w b M) (ty : TypeId) : ∃ w', (Builtin.clear_ #[211] ty #[.map (some b)]).run Tryz.prog w = .ok (.tuple #[]) w' /\ MapAt w' b [] /\ Apart [b] w w' := by
  obtain ⟨es, clock, hb, F, hs, hD⟩ := h.own
  have hlt := h.lt
  refine ⟨{ w with heap := w.heap.setIfInBounds b (.map #[] clock) }, ?_, ⟨⟨#[], clock, ?_, ⟨by simp, MapKept.stamped_empty _, by simp⟩, Nat.le_refl _, rfl⟩, Tidy.nil⟩, ⟨rfl, rfl, rfl, by simp, fun k hk hn => ?_⟩⟩
  · simp [Builtin.clear_, run_underlying Tryz.underlying211, MapKept.run_getObj_map hb, MapKept.run_setObj_map _ hb]
  · simp [hlt]
  · have : b ≠ k := fun e => hn (by simp [e])
    simp [this]
section
variable {w0 : World} {d g n jb cb mb at_ most : Nat} {blocks : Int} {mem : Nat -> Int} {writes left : Int} {M : Chg} {w w' : World}
theorem drop_calls (h : CSt w0 d g n jb cb mb at_ most blocks mem writes left M w) :
    Calls Tryz.prog 108 #[ptr cb] w fun e w' => e = .returned (.tuple #[]) /\ CSt w0 d g n jb cb mb at_ most blocks mem writes left [] w' /\ Apart [mb] w w' := by
  have h2 := h.cat.c2
  obtain ⟨w1, hcl, hm1, hA1⟩ := run_clear_map h.map 0
  have hcl2 : ∀ ty, (Builtin.clear_ #[211] ty #[.map (some mb)]).run Tryz.prog w = .ok (.tuple #[]) w1 := fun ty => hcl
  have hE := hidden (And.intro (h.turn hA1 hm1) hA1)
  clear h hcl hm1 hA1
  go_enter Tryz.func108, Tryz.ntmps108
  go_wp2
  go_end0
  exact ⟨rfl, hE.out⟩
end
end Go.Proofs.YtpofmiecjkghgaaGreatDoor
namespace Go.Proofs.YtpofmiecjkghgaaGreatDoor
open Go.RowKit Go.Extern.Stop Go.Stop Go.Extern Go.Maps
set_option maxRecDepth 100000
set_option maxHeartbeats 4000000
theorem GOwn.push {base : Nat} {w : World} {v : Value} {ps : List Piece} (h : GOwn base w v ps) (hn : ps.length + 1 <= 1000) (hbase : base <= w.heap.size) (no : Int) (blk : Nat) (zs : List Int) (hd : DataAt base w ⟨no, blk, zs⟩) (ty : TypeId) :
    ∃ v' w', (Builtin.append_ #[215, 215] ty #[v, .slice (some ⟨w.heap.size, 0, none⟩) 1 1]).run Tryz.prog (w.alloc (.cells #[.int .i64 no, .slice (some ⟨blk, 0, none⟩) 128 128] 255)) = .ok v' w' /\
      GOwn base w' v' (ps ++ [⟨no, blk, zs⟩]) /\ Below base w w' := by
  have hB : Below w.heap.size w (w.alloc (.cells #[.int .i64 no, .slice (some ⟨blk, 0, none⟩) 128 128] 255)) := (Below.refl _ _).alloc (Nat.le_refl _) _
  have hl : GOwn base (w.alloc (.cells #[.int .i64 no, .slice (some ⟨blk, 0, none⟩) 128 128] 255)) (.slice (some ⟨w.heap.size, 0, none⟩) ([⟨no, blk, zs⟩] : List Piece).length 1) [⟨no, blk, zs⟩] := GOwn.lit base w hbase ⟨no, blk, zs⟩ hd
  obtain ⟨v', w', hrun, hown, hB2, -⟩ := (h.below hB).append w.heap.size 1 hl (by rw [List.length_singleton]; omega) (Nat.le_trans hbase hB.size) ty
  exact ⟨v', w', hrun, hown, (hB.mono hbase).trans hB2⟩
theorem plain_push (ps : List Piece) (p : Piece) : plain (ps ++ [p]) = plain ps ++ [(p.no, p.zs)] := by simp [plain]
theorem Told.cell {base : Nat} {w : World} {v : Value} {M : Chg} (h : Told base w v M) (hne : M ≠ []) : ∃ b cap, v = .slice (some ⟨b, 0, none⟩) M.length cap /\ b < w.heap.size /\ ∀ k p, M[k]? = some p -> w.cell? ⟨b, k, none⟩ = some (.int .i64 p.1) := by
  rcases h.row.2 with ⟨_, h0⟩ | ⟨g', cap', cur, rfl, h1, hh, h2, h3, h4, h5⟩
  · exact absurd (List.length_eq_zero_iff.1 h0) hne
  · refine ⟨g', cap', rfl, ?_, fun k p hp => ?_⟩
    · rcases Nat.lt_or_ge g' w.heap.size with h | h
      · exact h
      · rw [Array.getElem?_eq_none h] at hh; cases hh
    · have hk : k < M.length := (List.getElem?_eq_some_iff.1 hp).1
      have hc := h.row.cellAt k (by omega)
      rw [hc]
      simp [hp]
theorem cgroup_calls {cb jb mb : Nat} {blocks : Int} {M : Chg} {w : World} (hc : CAt cb jb mb blocks w) (hm : MapAt w mb M) (hl : M.length <= 900) (hi : ∀ p ∈ M, i64 p.1) :
    Calls Tryz.prog 162 #[ptr cb] w fun e w' => ∃ v ps, e = .returned v /\ GOwn w.heap.size w' v ps /\ plain ps = M /\ Below w.heap.size w w' := by
  have hC := hidden (changed_calls hc hm (by omega))
  replace hc := hidden hc
  replace hm := hidden hm
  replace hi := hidden hi
  go_enter Tryz.func162, Tryz.ntmps162
  go_wp2_with fail
  refine (hC.out).mono ?_
  rintro ev w1 ⟨v, rfl, hT, hB1⟩
  obtain ⟨a, cap, rfl⟩ : ∃ a cap, v = .slice a M.length cap := by
    rcases hT.row.2 with ⟨rfl, h0⟩ | ⟨g', cap', cur, rfl, rest⟩
    · exact ⟨none, 0, by rw [h0]⟩
    · exact ⟨_, _, rfl⟩
  replace hT := hidden hT
  have hs1 := hB1.size
  replace hB1 := hidden hB1
  clear hC
  go_wp2_with fail
  go_loopg [3, 10] M.length (fun gk l q wr => ∃ k : Nat, k <= M.length /\ gk = M.length - k /\ q = .int .i64 k /\ Hid (∃ ps, GOwn w1.heap.size wr l ps /\ plain ps = M.take k /\ Below w1.heap.size w1 wr))
  case atStart => exact ⟨0, by omega, rfl, rfl, hidden ⟨[], GOwn.nil _ _, rfl, Below.refl _ _⟩⟩
  case round =>
    obtain ⟨k, hk, hgk, rfl, hI⟩ := hrel
    replace hgk := hidden hgk
    by_cases hlt : k < M.length
    · obtain ⟨ps, hG, hP, hB⟩ := hI.out
      obtain ⟨p, hp⟩ : ∃ p, M[k]? = some p := ⟨_, List.getElem?_eq_getElem hlt⟩
      have hpm := List.mem_of_getElem? hp
      obtain ⟨lb, lcap, hv, hlb, hcell⟩ := hT.out.cell (by intro e; rw [e] at hlt; simp at hlt)
      obtain ⟨rfl, -, -⟩ := Value.slice.inj hv
      have hck := (hB.cell (p := ⟨lb, k, none⟩) hlb).trans (hcell k p hp)
      have hB' := hB1.out.trans (hB.mono hB1.out.size)
      have c2 := (hc.out.below hB').c2
      have hlk := (hm.out.below hB').look p.1 (hi.out p hpm) false
      rw [getM_of_mem hm.out.tidy hpm] at hlk
      simp only [Bool.false_eq_true, if_false] at hlk
      have hz := hm.out.tidy.rows p hpm
      have hcs : Hid ((rowC p.2).size = 128) := hidden (rowC_size hz)
      have hall := hidden (rowC_one p.2)
      have hrow := hidden (fun (w' : World) (b : Nat) => lie_of_row (w := w') (b := b) hz)
      have htk : M.take (k + 1) = M.take k ++ [p] := by rw [List.take_add_one, hp]; rfl
      have hpl : ps.length = k := by have := congrArg List.length hP; simp [plain] at this; omega
      replace hP := hidden hP
      replace htk := hidden htk
      replace hz := hidden hz
      obtain ⟨no, zs⟩ := p
      simp only at hck hlk hcs hall hrow hz htk
      generalize rowC zs = cs at hlk hcs hall hrow
      replace hlk := hidden hlk
      replace hG := hidden hG
      replace hB := hidden hB
      replace hcell := hidden hcell
      clear hI hv hB' hp hpm
      have hnew : (wr.alloc (.cells (Array.replicate 128 (.int .u8 0)) 193)).heap[wr.heap.size]? = some (.cells (Array.replicate 128 (.int .u8 0)) 193 (0, 0)) := heap_alloc_new _ _
      replace hnew := hidden hnew
      have hBa : Below wr.heap.size wr ((wr.alloc (.cells Tryz.zeroCells193 193)).setRow wr.heap.size cs) := below_setRow ((Below.refl _ _).alloc (Nat.le_refl _) _) (Nat.le_refl _) cs
      have hh : ((wr.alloc (.cells Tryz.zeroCells193 193)).setRow wr.heap.size cs).heap[wr.heap.size]? = some (.cells cs 193 (0, 0)) := setRow_heap _ _ _ _ _ _ (heap_alloc_new _ _)
      have hLi := hrow.out _ _ hh
      have hd : DataAt w1.heap.size ((wr.alloc (.cells Tryz.zeroCells193 193)).setRow wr.heap.size cs) ⟨no, wr.heap.size, zs⟩ := ⟨hB.out.size, hLi.lt, hz.out.1, hLi.bytes, _, _, _, hh, by decide⟩
      obtain ⟨v4, w4, hrun, hG4, hB4⟩ := (hG.out.below hBa).push (by omega) (Nat.le_trans hB.out.size hBa.size) no wr.heap.size zs hd 215
      have hE := hidden (And.intro hG4 ((hB.out.trans (hBa.mono hB.out.size)).trans hB4))
      replace hrun := hidden hrun
      clear hG4 hB4 hBa hh hLi hd hrow
      go_wp2_with (first
        | (at_lookup; refine wpList_lookup_eq rfl 211 _ _ false rfl _ _ _ rfl rfl hlk.out ?_)
        | (refine wpList_store_row rfl 193 _ _ rfl wr.heap.size cs rfl rfl 193 _ hnew.out (by rw [hcs.out]; exact Tryz.sizeBlock) (by rw [hcs.out]; simp) hall.out ?_; generalize (wr.alloc (.cells Tryz.zeroCells193 193)).setRow wr.heap.size cs = w2 at hrun ⊢)
        | (at_builtin; refine wpList_append_eq _ _ 215 rfl _ _ v4 w4 rfl rfl hrun.out rfl ?_))
      go_roundg (M.length - (k + 1))
      case measure => rw [hgk.out]; omega
      case rel =>
        refine ⟨k + 1, hlt, rfl, by go_num, hidden ⟨_, hE.out.1, ?_, hE.out.2⟩⟩
        rw [plain_push, hP.out, htk.out]
    · obtain rfl : k = M.length := by omega
      go_wp2
      go_ret
      obtain ⟨ps, hG, hP, hB⟩ := hI.out
      refine ⟨_, ps, rfl, ?_, by rw [hP, List.take_length], hB1.out.trans (hB.mono hs1)⟩
      exact ⟨by
        rcases hG.row.2 with h2 | ⟨g', cap', cur, rfl, h1, rest⟩
        · exact ⟨hG.row.1, .inl h2⟩
        · exact ⟨hG.row.1, .inr ⟨g', cap', cur, rfl, Nat.le_trans hs1 h1, rest⟩⟩, fun p hp => by
        have := hG.data p hp
        exact ⟨Nat.le_trans hs1 this.new, this.lt, this.len, this.bytes, this.row⟩⟩
def grpM (M : Chg) : Grp := M.map fun p => (p.1.toNat, p.2)
theorem grpM_len (M : Chg) : (grpM M).length = M.length := by simp [grpM]
theorem grpM_up (M : Chg) (h : ∀ p ∈ M, 0 <= p.1) : up (grpM M) = M := by
  unfold up grpM
  rw [List.map_map]
  conv => rhs; rw [<- List.map_id M]
  apply List.map_congr_left
  intro p hp
  have := h p hp
  simp only [Function.comp, id]
  rw [Int.toNat_of_nonneg this]
theorem grpM_good {n at_ own : Nat} {M : Chg} (ht : Tidy M) (hl : M.length <= 200) (hk : ∀ p ∈ M, 0 <= p.1 /\ p.1 < n /\ (p.1 < at_ \/ (at_ : Int) + own <= p.1)) : Good n at_ own (grpM M) := by
  have hlen := grpM_len M
  have hget : ∀ j, j < M.length -> ∃ p, M[j]? = some p /\ p ∈ M /\ nob (grpM M) j = p.1.toNat /\ dat (grpM M) j = p.2 := fun j hj => by
    obtain ⟨p, hp⟩ : ∃ p, M[j]? = some p := ⟨_, List.getElem?_eq_getElem hj⟩
    refine ⟨p, hp, List.mem_of_getElem? hp, ?_, ?_⟩
    · show ((grpM M).getD j (0, [])).1 = _; simp [grpM, List.getD, hp]
    · show ((grpM M).getD j (0, [])).2 = _; simp [grpM, List.getD, hp]
  refine ⟨by omega, fun j hj => ?_, fun j hj => ?_, fun j hj => ?_, fun j hj => ?_, fun j i hj hi => ?_⟩
  · obtain ⟨p, -, hm, e, -⟩ := hget j (by omega); rw [e]; have := hk p hm; omega
  · obtain ⟨p, -, hm, -, e⟩ := hget j (by omega); rw [e]; exact (ht.rows p hm).1
  · obtain ⟨p, -, hm, -, e⟩ := hget j (by omega); rw [e]; exact (ht.rows p hm).2
  · obtain ⟨p, -, hm, e, -⟩ := hget j (by omega); rw [e]; have := hk p hm; omega
  · obtain ⟨p, hp, hm, e, -⟩ := hget j (by omega)
    obtain ⟨q, hq, hm2, e2, -⟩ := hget i (by omega)
    rw [e, e2]
    have h1 := hk p hm
    have h2 := hk q hm2
    have := List.pairwise_iff_getElem.1 ht.up i j (by omega) (by omega) hi
    rw [List.getElem?_eq_getElem (by omega)] at hp hq
    rw [Option.some.inj hp, Option.some.inj hq] at this
    omega
theorem Done.from {w0 : World} {d g n : Nat} {ws : Grp} {mem : Nat -> Int} {writes left : Int} {r : Value} {w w1 w' : World} (hb : Below w.heap.size w w1) (h : Done w0 d g n ws mem writes left r w1 w') : Done w0 d g n ws mem writes left r w w' := by
  refine ⟨(Apart.of_below hb).trans h.apart, ?_⟩
  rcases h.out with h' | ⟨k, b, i, h1, h2, h3, h4, h5⟩
  · exact Or.inl h'
  · exact Or.inr ⟨k, b, i, h1, h2, h3, Nat.le_trans hb.size h4, h5⟩
section
variable {w0 : World} {d g n jb cb mb at_ most : Nat} {blocks : Int} {mem : Nat -> Int} {writes left : Int} {M : Chg} {w w' : World}
theorem CSt.disked (h : CSt w0 d g n jb cb mb at_ most blocks mem writes left M w) {mem' : Nat -> Int} {writes' left' : Int} (ha : Apart [d, g] w w') (hS : Sys w0 d g n mem' writes' left' w') : CSt w0 d g n jb cb mb at_ most blocks mem' writes' left' M w' :=
  ⟨hS, h.jat.keep ha (by simp; exact h.jd), h.cat.keep ha (by simp; exact h.cd), h.map.keep ha (by simp; exact h.md), h.jd, h.cd, h.md, h.mj, h.new⟩
def Flush (w0 : World) (d g n jb cb mb at_ most : Nat) (blocks : Int) (mem : Nat -> Int) (writes left : Int) (M : Chg) (w : World) (e : Ending) (w' : World) : Prop :=
  (e = .returned .nilIface /\ Apart [d, g, mb] w w' /\ ∃ left', CSt w0 d g n jb cb mb at_ most blocks (laid (allWs at_ (grpM M)) mem) (writes + (allWs at_ (grpM M)).length) left' [] w' /\ LeftOk left' /\ (left = -1 -> left' = -1)) \/
  (∃ (k b : Nat) (i : Int), k < (allWs at_ (grpM M)).length /\ e = .returned (flt b) /\ Chain w' [(sCache, sNone), (sJournal, sNone), (sDisk, itoaB i)] (num 50) (flt b) /\ Apart [d, g] w w' /\ CSt w0 d g n jb cb mb at_ most blocks (laid ((allWs at_ (grpM M)).take k) mem) (writes + k) 0 M w' /\ left ≠ -1)
theorem flush_calls (h : CSt w0 d g n jb cb mb at_ most blocks mem writes left M w) (hlo : LeftOk left) (hw : 0 <= writes /\ writes < 400000000) (hm : 1 <= most /\ most <= 200) (hat : at_ + needN most <= n) (hi : Idle at_ mem) (h1 : 1 <= M.length) (h2 : M.length <= most) (hk : ∀ p ∈ M, 0 <= p.1 /\ p.1 < n /\ (p.1 < at_ \/ (at_ : Int) + needN most <= p.1)) :
    Calls Tryz.prog 107 #[ptr cb] w fun e w' => Flush w0 d g n jb cb mb at_ most blocks mem writes left M w e w' := by
  have hfew := h.sys.disk.few
  have hlts := h.lts
  have hgood := grpM_good (own := needN most) h.map.tidy (by omega) hk
  have hup := grpM_up M (fun p hp => (hk p hp).1)
  have kG : ∀ wx, Below w.heap.size w wx -> Calls Tryz.prog 162 #[ptr cb] wx fun e w' => ∃ v ps, e = .returned v /\ GOwn w.heap.size w' v ps /\ plain ps = M /\ Below w.heap.size w w' := fun wx hx => by
    refine (cgroup_calls (h.more hx).cat (h.more hx).map (by omega) (fun p hp => by have := hk p hp; constructor <;> omega)).mono ?_
    rintro e w' ⟨v, ps, rfl, hG, hP, hB⟩
    refine ⟨v, ps, rfl, ?_, hP, hx.trans (hB.mono hx.size)⟩
    exact ⟨by
      rcases hG.row.2 with h2 | ⟨g', cap', cur, rfl, h1, rest⟩
      · exact ⟨hG.row.1, .inl h2⟩
      · exact ⟨hG.row.1, .inr ⟨g', cap', cur, rfl, Nat.le_trans hx.size h1, rest⟩⟩, fun p hp => by
      have := hG.data p hp
      exact ⟨Nat.le_trans hx.size this.new, this.lt, this.len, this.bytes, this.row⟩⟩
  have kC : ∀ w2 v ps, GOwn w.heap.size w2 v ps -> plain ps = M -> Below w.heap.size w w2 -> Calls Tryz.prog 161 #[ptr jb, v] w2 fun e w' => ∃ r, e = .returned r /\ Done w0 d g n (allWs at_ (grpM M)) mem writes left r w w' := fun w2 v ps hG hP hB => by
    have hpl : ps.length = M.length := by have := congrArg List.length hP; simpa [plain] using this
    have hoff := hG.off (d := d) (g := g) (by omega) (by omega) (by omega)
    rw [hP, <- hup] at hoff
    refine (commit_good (h.more hB).sys hlo hw jb at_ most hm (h.more hB).jat h.jd hat hi (grpM M) (by rw [grpM_len]; exact h1) (by rw [grpM_len]; exact h2) hgood v hoff).mono ?_
    rintro e w' ⟨r, rfl, hD⟩
    exact ⟨r, rfl, hD.from hB⟩
  have hF0 := hidden h
  have c0 := h.cat.c0
  have hcl := h.cat.lt
  have c0x : ∀ wx, Below w.heap.size w wx -> wx.cell? ⟨cb, 0, none⟩ = some (ptr jb) := fun wx hx => (hx.cell (p := ⟨cb, 0, none⟩) hcl).trans c0
  replace kG := hidden kG
  replace kC := hidden kC
  replace c0x := hidden c0x
  clear h hgood hup hi hk
  have hBd : Below w.heap.size w w.drew := below_drew1 w
  replace hBd := hidden hBd
  go_enter Tryz.func107, Tryz.ntmps107
  go_upto_region 1 with fail
  go_cut [3] (fun x wx => Done w0 d g n (allWs at_ (grpM M)) mem writes left x w wx)
  case first =>
    go_region_with (first
      | (go_at_call 162; refine (kG.out _ hBd.out).mono ?_; rintro ev w2 ⟨v2, ps2, rfl, hG2, hP2, hB2⟩; have c2 := c0x.out _ hB2; have hC2 := hidden (kC.out _ _ _ hG2 hP2 hB2); clear hG2 hP2 hB2)
      | (go_at_call 161; refine (hC2.out).mono ?_; rintro ev w3 ⟨r, rfl, hD⟩; replace hD := hidden hD))
    all_goals (go_wp2; go_meet; case rel => exact hD.out)
  case rest =>
    rcases hcut.out with ⟨rfl, left', hS, hl1, hl2⟩ | ⟨k, b, i, hk, rfl, hc, hb, hS, hl⟩
    · have hC := hF0.out.disked hcut.apart hS
      have hD := hidden (drop_calls hC)
      have hA := hidden hcut.apart
      have hl3 := hidden (And.intro hl1 hl2)
      clear hcut hS hC kG kC c0x c0 hl1 hl2
      go_wp2_with fail
      refine (hD.out).mono ?_
      rintro ev w4 ⟨rfl, hC4, hA4⟩
      have hE := hidden (And.intro ((hA.out.mono (cs := [d, g, mb]) (by simp)).trans (hA4.mono (cs := [d, g, mb]) (by simp))) hC4)
      clear hC4 hA4 hD
      go_wp2
      go_ret
      exact Or.inl ⟨rfl, hE.out.1, left', hE.out.2, hl3.out⟩
    · have hC := hidden (hF0.out.disked hcut.apart hS)
      have hA := hidden hcut.apart
      replace hc := hidden hc
      replace hk := hidden hk
      replace hl := hidden hl
      clear hcut hS kG kC c0x c0
      go_wp2_with fail
      refine (wrap_some sCache sNone _ _ wc).mono ?_
      rintro ev w4 ⟨rfl, rfl⟩
      have hB4 : Below wc.heap.size wc (wc.alloc (fcells sCache sNone (flt b))) := (Below.refl _ _).alloc (Nat.le_refl _) _
      have hE := hidden (And.intro (Chain.alloc (w := wc) sCache sNone hc.out) (And.intro (hA.out.trans (Apart.of_below hB4)) (hC.out.more hB4)))
      clear hB4
      generalize wc.alloc (fcells sCache sNone (flt b)) = w5 at hE ⊢
      go_wp2
      go_ret
      exact Or.inr ⟨k, _, i, hk.out, rfl, hE.out.1, hE.out.2.1, hE.out.2.2, hl.out⟩
theorem flush_none (h : CSt w0 d g n jb cb mb at_ most blocks mem writes left [] w) (hm : 1 <= most /\ most <= 200) (hat : at_ + needN most <= n) :
    Calls Tryz.prog 107 #[ptr cb] w fun e w' => e = .returned .nilIface /\ CSt w0 d g n jb cb mb at_ most blocks mem writes left [] w' /\ Apart [mb] w w' := by
  have hlts := h.lts
  have kG : ∀ wx, Below w.heap.size w wx -> Calls Tryz.prog 162 #[ptr cb] wx fun e w' => ∃ v ps, e = .returned v /\ GOwn wx.heap.size w' v ps /\ plain ps = [] /\ Below w.heap.size w w' := fun wx hx => by
    refine (cgroup_calls (h.more hx).cat (h.more hx).map (by simp) (fun p hp => by cases hp)).mono ?_
    rintro e w' ⟨v, ps, rfl, hG, hP, hB⟩
    exact ⟨v, ps, rfl, hG, hP, hx.trans (hB.mono hx.size)⟩
  have kC : ∀ w2 v, GAt w2 v [] -> Below w.heap.size w w2 -> Calls Tryz.prog 161 #[ptr jb, v] w2 fun e w' => e = .returned .nilIface /\ Below w.heap.size w w' := fun w2 v hv hB =>
    (commit_none (h.more hB).sys jb at_ most hm (h.more hB).jat hat v hv).mono fun _ _ ⟨h1, h2⟩ => ⟨h1, hB.trans (h2.mono hB.size)⟩
  have hF0 := hidden h
  have c0 := h.cat.c0
  have hcl := h.cat.lt
  have c0x : ∀ wx, Below w.heap.size w wx -> wx.cell? ⟨cb, 0, none⟩ = some (ptr jb) := fun wx hx => (hx.cell (p := ⟨cb, 0, none⟩) hcl).trans c0
  replace kG := hidden kG
  replace kC := hidden kC
  replace c0x := hidden c0x
  clear h
  have hBd : Below w.heap.size w w.drew := below_drew1 w
  replace hBd := hidden hBd
  go_enter Tryz.func107, Tryz.ntmps107
  go_upto_region 1 with fail
  go_cut [3] (fun x wx => x = .nilIface /\ Below w.heap.size w wx)
  case first =>
    go_region_with (first
      | (go_at_call 162; refine (kG.out _ hBd.out).mono ?_; rintro ev w2 ⟨v2, ps2, rfl, hG2, hP2, hB2⟩; have c2 := c0x.out _ hB2; have hC2 := hidden (kC.out _ _ (by have := hG2.at (by have := congrArg List.length hP2; simp [plain] at this; simp [this]); rw [hP2] at this; exact this) hB2); clear hG2 hP2 hB2)
      | (go_at_call 161; refine (hC2.out).mono ?_; rintro ev w3 ⟨rfl, hD⟩; replace hD := hidden hD))
    all_goals (go_wp2; go_meet; case rel => exact ⟨rfl, hD.out⟩)
  case rest =>
    obtain ⟨rfl, hB⟩ := hcut
    have hD := hidden (drop_calls (hF0.out.more hB))
    replace hB := hidden hB
    clear kG kC c0x c0
    go_wp2_with fail
    refine (hD.out).mono ?_
    rintro ev w4 ⟨rfl, hC4, hA4⟩
    have hE := hidden (And.intro hC4 ((Apart.of_below hB.out).trans hA4))
    clear hC4 hA4 hD
    go_wp2
    go_ret
    exact ⟨rfl, hE.out⟩
end
end Go.Proofs.YtpofmiecjkghgaaGreatDoor
