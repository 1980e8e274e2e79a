/- The Cache's Changed, Drop and New. -/
import Derived.Test.YtkaippiblpedhaaGreatDoorCa4
import Derived.Test.YtkaippiblpedhaaGreatDoorShelf2
namespace Go.Proofs.YtkaippiblpedhaaGreatDoor
open Go.RowKit Go.Extern.Stop Go.Stop Go.Extern Go.Maps Go.Sort Go.Shelf
set_option maxRecDepth 100000

theorem sortsA (m : Nat) : AnyZI.SortsIn Tryz.prog Tryz.sortedA_ren Fence.wide m :=
  ⟨fun blk off cap ss W hH hblk hsz => callsIn_wide.2 (AnyM.slices_Sort_int Tryz.sortA blk off cap ss W hH hblk hsz),
   fun p cap W => callsIn_wide.2 (AnyM.slices_Sort_int_none Tryz.sortA p cap W)⟩
/-- The numbers of the changed blocks, as a new list. -/
structure Told (base : Nat) (w : World) (v : Value) (M : Chg) : Prop where
  row : w.ownsRow base 3 1 v M.length ((M.map (·.1)).map encZ)
  nil : v = .slice none 0 0 ↔ M = []
set_option maxHeartbeats 1000000 in
theorem changed_calls {cb jb mb : Nat} {blocks : Int} {M : Chg} {w : World} (hc : CAt cb jb mb blocks w) (hm : MapAt w mb M) (hl : M.length ≤ 1000000) :
    Calls Tryz.prog 14 #[ptr cb] w fun e w' => ∃ v, e = .returned v ∧ Told w.heap.size w' v M ∧ Below w.heap.size w w' := by
  refine (callsIn_wide (n := 6)).1 ?_
  have h2 := hc.c2
  have hbl := hm.lt
  have hown := hm.own
  have hseq : SeqGives Fence.wide 2 Tryz.prog 51 #[.pointer (some ⟨w.heap.size, 0, none⟩)] encZ (fun ss => ss.Perm (intKeys (datM M))) (Maps.size (datM M)) (w.alloc (.cells #[.map (some mb)] 66)) :=
    AnyZI.keys_gives (ρ := Tryz.keysA_ren) { Tryz.keysA with } Fence.wide _ trivial rfl (by omega) w.heap.size mb M.length (datM M) _ (by simp) (by simp) (by
      obtain ⟨es, clock, hb, Ft, hs, hD⟩ := hown
      exact ⟨es, clock, (Below.heap_alloc _ _ mb hbl).trans hb, Ft, hs, hD⟩)
  have cK : ∀ m W, CallsIn Fence.wide 5 Tryz.prog 31 #[.map m] W fun e w' => e = .returned (.func (.func 51) #[] #[.pointer (some ⟨W.heap.size, 0, none⟩)]) ∧ w' = W.alloc (.cells #[.map m] 66) := fun m W => AnyZI.keys_in Tryz.keysA Fence.wide 5 trivial rfl m W
  have cS := AnyZI.sorted_in Tryz.sortedA Fence.wide 5 trivial trivial trivial trivial rfl (by omega) (sortsA _) (enters_of Tryz.func50 (by kernel_rfl) rfl) 51 #[.pointer (some ⟨w.heap.size, 0, none⟩)] trivial (enters_of Tryz.func51 (by kernel_rfl) rfl) _ _ (by rw [size_dat]; unfold maxLen; omega) (by rw [size_dat]; omega) _ hseq
  change CallsIn _ _ Tryz.prog 30 _ _ _ at cS
  have hfK : Fence.wide.fn 31 := trivial
  have hfS : Fence.wide.fn 30 := trivial
  have hup := hm.tidy.up
  clear hm hc hseq hown
  refine callsIn_of_wp Tryz.func14 rfl trivial ?_ rfl
  simp only [Tryz.ntmps14, List.size_toArray, List.length_cons, List.length_nil, Nat.reduceAdd, Nat.reduceSub, Array.replicate_succ, Array.replicate_zero, List.push_toArray, List.append_toArray, List.nil_append, List.cons_append]
  gi_wp2_with (first
    | (gi_at_call 31; refine (cK _ _).mono ?_; rintro e w' ⟨rfl, rfl⟩)
    | (gi_at_call 30; refine cS.mono ?_; rintro e w' ⟨v, ss, rfl, hS, hrow, hnil, hb⟩))
  go_ret
  rw [keys_dat] at hS
  have hlen : ss.length = M.length := by rw [hS.length_eq]; simp
  have hsort : ss.mergeSort (fun x y => decide (x ≤ y)) = M.map (·.1) := (mergeSort_of_perm_i hS).trans (keys_sorted hup)
  rw [hsort, hlen] at hrow
  refine ⟨v, rfl, ⟨ownsRow_base_a hrow (by simp), ?_⟩, ((Below.refl _ w).alloc (Nat.le_refl _) _).trans (hb.mono (by simp))⟩
  rw [hnil]
  exact ⟨fun e => by rw [e] at hlen; exact List.length_eq_zero_iff.1 hlen.symm, fun e => by rw [e] at hlen; exact List.length_eq_zero_iff.1 hlen⟩
theorem run_clear_map {w : World} {b : Nat} {M : Chg} (h : MapAt w b M) (ty : TypeId) : ∃ w', (Builtin.clear_ #[66] ty #[.map (some b)]).run Tryz.prog w = .ok (.tuple #[]) w' ∧ MapAt w' b [] ∧ Apart [b] w w' := by
  obtain ⟨es, clock, hb, F, hs, hD⟩ := h.own
  have hlt := h.lt
  refine ⟨{ w with heap := w.heap.setIfInBounds b (.map #[] clock) }, ?_, ⟨⟨#[], clock, ?_, ⟨by simp, MapKept.stamped_empty _, by simp⟩, Nat.le_refl _, rfl⟩, Tidy.nil⟩, ⟨rfl, rfl, rfl, by simp, fun k hk hn => ?_⟩⟩
  · simp [Builtin.clear_, run_underlying Tryz.underlying66, MapKept.run_getObj_map hb, MapKept.run_setObj_map _ hb]
  · simp [hlt]
  · have : b ≠ k := fun e => hn (by simp [e])
    simp [this]
section
variable {w0 : World} {d g n jb cb mb at_ most : Nat} {blocks : Int} {mem : Nat → Int} {writes left : Int} {M : Chg} {w w' : World}
theorem drop_calls (h : CSt w0 d g n jb cb mb at_ most blocks mem writes left M w) :
    Calls Tryz.prog 12 #[ptr cb] w fun e w' => e = .returned (.tuple #[]) ∧ CSt w0 d g n jb cb mb at_ most blocks mem writes left [] w' ∧ Apart [mb] w w' := by
  have h2 := h.cat.c2
  obtain ⟨w1, hcl, hm1, hA1⟩ := run_clear_map h.map 0
  have hcl2 : ∀ ty, (Builtin.clear_ #[66] ty #[.map (some mb)]).run Tryz.prog w = .ok (.tuple #[]) w1 := fun ty => hcl
  have hE := hidden (And.intro (h.turn hA1 hm1) hA1)
  clear h hcl hm1 hA1
  go_enter Tryz.func12, Tryz.ntmps12
  go_wp2
  go_end0
  exact ⟨rfl, hE.out⟩
theorem cnew_nil (blocks : Int) (hb : i64 blocks) (w : World) (hG : Ground w) :
    Calls Tryz.prog 18 #[.pointer none, .int .i64 blocks] w fun e w' => ∃ b, e = .returned (.tuple #[.pointer none, flt b]) ∧ Chain w' [(sCache, itoaB blocks)] (num 1) (flt b) ∧ Below w.heap.size w w' := by
  have hC := hidden (cwrong_some blocks hb w hG [] (num 1) _ _ rfl)
  clear hG
  go_enter Tryz.func18, Tryz.ntmps18
  go_wp2_with fail
  refine (hC.out).mono ?_
  rintro ev w2 ⟨b, rfl, hc, -, hB⟩
  have hE := hidden (And.intro hc hB)
  clear hc hB
  go_wp2
  go_ret2
  exact ⟨b, rfl, hE.out⟩
theorem cnew_calls (h : Sys w0 d g n mem writes left w) (hj : JAt jb d at_ most w) (hjd : jb ≠ d ∧ jb ≠ g) (blocks : Int) (hb : 1 ≤ blocks) :
    Calls Tryz.prog 18 #[ptr jb, .int .i64 blocks] w fun e w' => e = .returned (.tuple #[ptr (w.heap.size + 1), .nilIface]) ∧ CSt w0 d g n jb (w.heap.size + 1) w.heap.size at_ most blocks mem writes left [] w' ∧ Below w.heap.size w w' := by
  have hmm := @run_makeMap Tryz.prog
  have hB0 : Below w.heap.size w (w.alloc (.map #[] 0)) := (Below.refl _ _).alloc (Nat.le_refl _) _
  have hm0 := mapAt_new w
  have hB1 : Below (w.alloc (.map #[] 0)).heap.size (w.alloc (.map #[] 0)) ((w.alloc (.map #[] 0)).alloc (.cells #[ptr jb, .int .i64 blocks, .map (some w.heap.size)] 68)) := (Below.refl _ _).alloc (Nat.le_refl _) _
  have hl := h.disk.lt
  have hjl := hj.lt
  have hs : w0.heap.size ≤ w.heap.size := h.below.size
  have hE : CSt w0 d g n jb (w.heap.size + 1) w.heap.size at_ most blocks mem writes left [] ((w.alloc (.map #[] 0)).alloc (.cells #[ptr jb, .int .i64 blocks, .map (some w.heap.size)] 68)) :=
    ⟨(h.more hB0).more hB1, (hj.below hB0).below hB1, ⟨by simp, by simp, by simp⟩, hm0.below hB1, hjd, by omega, by omega, by omega, hs⟩
  have hE2 := hidden (And.intro hE (hB0.trans (hB1.mono (by simp))))
  clear h hj hB0 hB1 hm0 hE hl hjl hs
  have hb' : ¬ blocks < 1 := by omega
  go_enter Tryz.func18, Tryz.ntmps18
  go_wp2
  go_ret2
  exact ⟨by simp, hE2.out⟩
end
end Go.Proofs.YtkaippiblpedhaaGreatDoor
