/- Lists of numbers of one's own; alloc's All and Taken. -/
import Derived.Test.YtpofmiecjkghgaaGreatDoorGAnp
import Derived.Test.YtpofmiecjkghgaaGreatDoorGIap
import Derived.Test.YtpofmiecjkghgaaGreatDoorGCbp
import Derived.Deep.RegionHeld
import Derived.Laws.AppendOwnNone
namespace Go.Proofs.YtpofmiecjkghgaaGreatDoor
open Go.RowKit Go.Extern.Stop Go.Stop Go.Extern Go.Maps Go.Sort Go.Shelf
set_option maxRecDepth 100000
set_option maxHeartbeats 4000000
def takenL (S : Nat -> Bool) (fr j : Nat) : List Int := ((List.range j).filter fun i => S i).map fun i => ((fr + i : Nat) : Int)
theorem takenL_succ (S : Nat -> Bool) (fr j : Nat) : takenL S fr (j + 1) = takenL S fr j ++ (if S j then [((fr + j : Nat) : Int)] else []) := by
  unfold takenL
  rw [List.range_succ, List.filter_append, List.map_append]
  cases h : S j <;> simp [h]
theorem takenL_len (S : Nat -> Bool) (fr j : Nat) : (takenL S fr j).length <= j := by
  unfold takenL
  rw [List.length_map]
  refine Nat.le_trans (List.length_filter_le _ _) ?_
  simp
structure Gath (W : World) (p q ab : Nat) (v : Value) (ks : List Int) (w : World) : Prop where
  cell : w.cell? ⟨p, 0, none⟩ = some v
  free : w.frozen? ⟨p, 0, none⟩ = false
  map : w.cell? ⟨q, 0, none⟩ = some (ptr ab)
  kept : Kept (W.heap.size + 2) w v ks
  nil : ks = [] -> v = .slice none 0 0
  pq : q = W.heap.size /\ p = W.heap.size + 1
  below : Below W.heap.size W w
section
variable {W w w' : World} {p q ab : Nat} {v : Value} {ks : List Int}
theorem Gath.more (h : Gath W p q ab v ks w) (hb : Below w.heap.size w w') : Gath W p q ab v ks w' :=
  ⟨(hb.cell (p := ⟨p, 0, none⟩) (lt_of_cell h.cell)).trans h.cell, (hb.frozen (p := ⟨p, 0, none⟩) (lt_of_cell h.cell)).trans h.free, (hb.cell (p := ⟨q, 0, none⟩) (lt_of_cell h.map)).trans h.map, h.kept.below hb, h.nil, h.pq, h.below.trans (hb.mono h.below.size)⟩
theorem Gath.own (h : Gath W p q ab v ks w) {b : Nat} {zs : List Int} (hr : RowB w b zs) : some b ≠ v.ownBlock := by
  intro e
  have hne : ks ≠ [] := fun e2 => by rw [h.nil e2] at e; cases e
  obtain ⟨a, cap, rfl, hf⟩ := h.kept.form
  obtain ⟨b', rfl, -, -, hc⟩ := hf hne
  have e' : b = b' := by simpa [Value.ownBlock] using e
  subst e'
  have h1 := hr 0 (by decide)
  rw [hc 0 (List.length_pos_iff.2 hne)] at h1
  cases h1
theorem all1_calls {fr j : Nat} {T : Bool} (h : Gath W p q ab v ks w) (hm : w.cell? ⟨ab, 2, none⟩ = some (.int .i64 fr)) (hfr : fr + j < 4611686018427387904) (hk : ks.length <= 500) :
    Calls Tryz.prog 240 #[.int .i64 j, .bool T, ptr p, ptr q] w fun e w' => e = .returned (.bool true) /\ (∃ v', Gath W p q ab v' (ks ++ if T then [((fr + j : Nat) : Int)] else []) w') /\ ∀ b zs, RowB w b zs -> RowB w' b zs := by
  cases T with
  | false =>
    have hE := hidden h
    clear h hm
    go_enter Tryz.func240, Tryz.ntmps240
    go_wp2
    go_ret
    exact ⟨rfl, ⟨v, by simpa using hE.out⟩, fun b zs hr => hr⟩
  | true =>
    have c1 := h.cell
    have c2 := h.map
    have f1 := h.free
    have hpl := lt_of_cell h.cell
    have hql := lt_of_cell h.map
    have habl : ab < w.heap.size := lt_of_cell hm
    have hBA : Below w.heap.size w (w.alloc (.cells #[.int .i64 ((fr : Int) + (j : Int))] 3)).drew := ((Below.refl _ _).alloc (Nat.le_refl _) _).drew
    have hA := h.more hBA
    have hone : ∀ i, i < 1 -> (w.alloc (.cells #[.int .i64 ((fr : Int) + (j : Int))] 3)).drew.cell? (Addr.add ⟨w.heap.size, 0, none⟩ i) = some (.int .i64 (([((fr : Int) + (j : Int))] : List Int).getD i 0)) := fun i hi => by
      obtain rfl : i = 0 := by omega
      simp [Addr.add]
    obtain ⟨v4, w4, hrun, hk4, hB4, hkp⟩ := kept_append hA.kept ⟨w.heap.size, 0, none⟩ 1 1 [((fr : Int) + (j : Int))] rfl hone (by omega) (by have := hA.below.size; have := hA.pq; have := lt_of_cell hA.cell; simp at this ⊢; omega) 58
    have hne : ∀ x, x < W.heap.size + 2 -> some x ≠ v.ownBlock := fun x hx e => by
      rcases hA.kept.row.2 with ⟨rfl, -⟩ | ⟨g', cap', cur, rfl, h1, -⟩
      · cases e
      · have : x = g' := by simpa [Value.ownBlock] using e
        omega
    have hpq := h.pq
    have hkeep : ∀ x, x < w.heap.size -> some x ≠ v.ownBlock -> w4.heap[x]? = w.heap[x]? := fun x hx hn => (hkp x (Nat.lt_of_lt_of_le hx hBA.size) hn).trans (hBA.block x hx)
    have c1w : w4.cell? ⟨p, 0, none⟩ = some v := (World.cell?_of_block (a := ⟨p, 0, none⟩) (hkeep p hpl (hne p (by omega)))).trans c1
    have f1w : w4.frozen? ⟨p, 0, none⟩ = false := (World.frozen?_of_block (a := ⟨p, 0, none⟩) (hkeep p hpl (hne p (by omega)))).trans f1
    have c2w : w4.cell? ⟨q, 0, none⟩ = some (ptr ab) := (World.cell?_of_block (a := ⟨q, 0, none⟩) (hkeep q hql (hne q (by omega)))).trans c2
    have hcast : (((fr + j : Nat) : Int)) = (fr : Int) + (j : Int) := by omega
    have hE : Gath W p q ab v4 (ks ++ [((fr + j : Nat) : Int)]) (w4.setCell ⟨p, 0, none⟩ v4) := by
      have hAp : Apart [p] w4 (w4.setCell ⟨p, 0, none⟩ v4) := (Apart.refl [p] w4).setCell (p := ⟨p, 0, none⟩) (by simp) v4
      refine ⟨World.cell?_setCell_same' _ _ _ (by rw [c1w]; rfl), by simp [f1w], ?_, ?_, fun e => by simp at e, h.pq, ?_⟩
      · exact (World.cell?_setCell_other _ _ _ _ (by intro e; have := congrArg Addr.block e; simp at this; omega)).trans c2w
      · rw [hcast]
        exact hk4.keep hAp (by simp; omega)
      · exact ((hA.below.trans (hB4.mono (by omega))).setCell (p := ⟨p, 0, none⟩) (by show W.heap.size <= p; omega) v4)
    have hR : ∀ b zs, RowB w b zs -> RowB (w4.setCell ⟨p, 0, none⟩ v4) b zs := fun b zs hr i hi => by
      have hbp : b ≠ p := by
        intro e
        have h1 := hr 0 (by decide)
        rw [e, c1] at h1
        obtain ⟨a, cap, rfl, -⟩ := h.kept.form
        cases h1
      refine (World.cell?_setCell_other _ _ _ _ (by intro e; exact hbp (congrArg Addr.block e).symm)).trans ?_
      exact (World.cell?_of_block (a := ⟨b, i, none⟩) (hkeep b hr.lt (h.own hr))).trans (hr i hi)
    have hEE := hidden (And.intro hE hR)
    replace hrun := hidden hrun
    obtain ⟨av, capv, rfl, -⟩ := h.kept.form
    obtain ⟨a4, cap4, rfl, -⟩ := hk4.form
    generalize (ks ++ [(fr : Int) + (j : Int)]).length = L4 at hrun hEE
    clear hE hR hkeep hne hkp hB4 hk4 hA hBA hone h c2w hcast hpq
    have hwr : IntKind.i64.wrap ((fr : Int) + (j : Int)) = (fr : Int) + (j : Int) := wrap_pos _ (by omega) (by omega)
    go_enter Tryz.func240, Tryz.ntmps240
    go_upto_region 2 with fail
    refine wp_region_any (by kernel_rfl) ?_
    try (change wpAny _ _ _ _ _ _ _ (World.drew _))
    refine wpAny_take (i := 5) (v := ?_) rfl (by kernel_rfl) (by kernel_rfl) (by kernel_rfl) (fun _ _ _ h => h) (Or.inl ⟨by rfl, ?_⟩) ?_
    rotate_left
    · intro w; go_simp; try (with_reducible rfl)
    refine wpAny_ready (rs := [0, 1]) (by kernel_rfl) (by simp) ?_
    refine AllReady.cons rfl (fun K hK => ?_) ?_
    · go_simp
      try (refine hK _ _ ?_; clear hK K)
      refine wpAny_ready (rs := [1]) (by kernel_rfl) (by simp) ?_
      refine AllReady.cons rfl (fun K hK => ?_) AllReady.nil
      go_simp
      try (refine hK _ _ ?_; clear hK K)
      refine wpAny_ready (rs := [2]) (by kernel_rfl) (by simp) ?_
      refine AllReady.cons rfl (fun K hK => ?_) AllReady.nil
      go_simp
      try (refine hK _ _ ?_; clear hK K)
      refine wpAny_ready (rs := [3]) (by kernel_rfl) (by simp) ?_
      refine AllReady.cons rfl (fun K hK => ?_) AllReady.nil
      go_simp
      try (refine hK _ _ ?_; clear hK K)
      refine wpAny_ready (rs := [4]) (by kernel_rfl) (by simp) ?_
      refine AllReady.cons rfl (fun K hK => ?_) AllReady.nil
      go_simp
      try (refine hK _ _ ?_; clear hK K)
      refine wpAny_ready (rs := [6]) (by kernel_rfl) (by simp) ?_
      refine AllReady.cons rfl (fun K hK => ?_) AllReady.nil
      go_simp
      try (refine hK _ _ ?_; clear hK K)
      refine wpAny_ready (rs := [7]) (by kernel_rfl) (by simp) ?_
      refine AllReady.cons rfl (fun K hK => ?_) AllReady.nil
      go_simp
      try (refine hK _ _ ?_; clear hK K)
      refine wpAny_ready (rs := [8]) (by kernel_rfl) (by simp) ?_
      refine AllReady.cons rfl (fun K hK => ?_) AllReady.nil
      refine any_append rfl rfl _ _ _ _ rfl rfl hrun.out ?_
      try (refine hK _ _ ?_; clear hK K)
      refine wpAny_ready (rs := [9]) (by kernel_rfl) (by simp) ?_
      refine AllReady.cons rfl (fun K hK => ?_) AllReady.nil
      go_simp
      try (refine hK _ _ ?_; clear hK K)
      refine wpAny_done (by kernel_rfl) ?_ _
      go_wp2
      go_ret
      exact ⟨rfl, ⟨_, by simpa using hEE.out.1⟩, hEE.out.2⟩
    refine AllReady.cons rfl (fun K hK => ?_) ?_
    · go_simp
      try (refine hK _ _ ?_; clear hK K)
      refine wpAny_take (i := 2) (v := ?_) rfl (by kernel_rfl) (by kernel_rfl) (by kernel_rfl) (fun _ _ _ h => h) (Or.inl ⟨by rfl, ?_⟩) ?_
      rotate_left
      · intro w; go_simp; try (with_reducible rfl)
      refine wpAny_take (i := 3) (v := ?_) rfl (by kernel_rfl) (by kernel_rfl) (by kernel_rfl) (fun _ _ _ h => h) (Or.inl ⟨by rfl, ?_⟩) ?_
      rotate_left
      · intro w; go_simp; try (with_reducible rfl)
      refine wpAny_ready (rs := [0, 4]) (by kernel_rfl) (by simp) ?_
      refine AllReady.cons rfl (fun K hK => ?_) ?_
      · go_simp
        try (refine hK _ _ ?_; clear hK K)
        refine wpAny_ready (rs := [4]) (by kernel_rfl) (by simp) ?_
        refine AllReady.cons rfl (fun K hK => ?_) AllReady.nil
        go_simp
        try (refine hK _ _ ?_; clear hK K)
        refine wpAny_ready (rs := [6]) (by kernel_rfl) (by simp) ?_
        refine AllReady.cons rfl (fun K hK => ?_) AllReady.nil
        go_simp
        try (refine hK _ _ ?_; clear hK K)
        refine wpAny_ready (rs := [7]) (by kernel_rfl) (by simp) ?_
        refine AllReady.cons rfl (fun K hK => ?_) AllReady.nil
        go_simp
        try (refine hK _ _ ?_; clear hK K)
        refine wpAny_ready (rs := [8]) (by kernel_rfl) (by simp) ?_
        refine AllReady.cons rfl (fun K hK => ?_) AllReady.nil
        refine any_append rfl rfl _ _ _ _ rfl rfl hrun.out ?_
        try (refine hK _ _ ?_; clear hK K)
        refine wpAny_ready (rs := [9]) (by kernel_rfl) (by simp) ?_
        refine AllReady.cons rfl (fun K hK => ?_) AllReady.nil
        go_simp
        try (refine hK _ _ ?_; clear hK K)
        refine wpAny_done (by kernel_rfl) ?_ _
        go_wp2
        go_ret
        exact ⟨rfl, ⟨_, by simpa using hEE.out.1⟩, hEE.out.2⟩
      refine AllReady.cons rfl (fun K hK => ?_) ?_
      · go_simp
        try (refine hK _ _ ?_; clear hK K)
        refine wpAny_take (i := 6) (v := ?_) rfl (by kernel_rfl) (by kernel_rfl) (by kernel_rfl) (fun _ _ _ h => h) (Or.inl ⟨by rfl, ?_⟩) ?_
        rotate_left
        · intro w; go_simp; try (with_reducible rfl)
        refine wpAny_ready (rs := [0, 7]) (by kernel_rfl) (by simp) ?_
        refine AllReady.cons rfl (fun K hK => ?_) ?_
        · go_simp
          try (refine hK _ _ ?_; clear hK K)
          refine wpAny_ready (rs := [7]) (by kernel_rfl) (by simp) ?_
          refine AllReady.cons rfl (fun K hK => ?_) AllReady.nil
          go_simp
          try (refine hK _ _ ?_; clear hK K)
          refine wpAny_ready (rs := [8]) (by kernel_rfl) (by simp) ?_
          refine AllReady.cons rfl (fun K hK => ?_) AllReady.nil
          refine any_append rfl rfl _ _ _ _ rfl rfl hrun.out ?_
          try (refine hK _ _ ?_; clear hK K)
          refine wpAny_ready (rs := [9]) (by kernel_rfl) (by simp) ?_
          refine AllReady.cons rfl (fun K hK => ?_) AllReady.nil
          go_simp
          try (refine hK _ _ ?_; clear hK K)
          refine wpAny_done (by kernel_rfl) ?_ _
          go_wp2
          go_ret
          exact ⟨rfl, ⟨_, by simpa using hEE.out.1⟩, hEE.out.2⟩
        refine AllReady.cons rfl (fun K hK => ?_) ?_
        · go_simp
          try (refine hK _ _ ?_; clear hK K)
          refine wpAny_ready (rs := [0]) (by kernel_rfl) (by simp) ?_
          refine AllReady.cons rfl (fun K hK => ?_) AllReady.nil
          go_simp
          try (refine hK _ _ ?_; clear hK K)
          refine wpAny_ready (rs := [8]) (by kernel_rfl) (by simp) ?_
          refine AllReady.cons rfl (fun K hK => ?_) AllReady.nil
          refine any_append rfl rfl _ _ _ _ rfl rfl hrun.out ?_
          try (refine hK _ _ ?_; clear hK K)
          refine wpAny_ready (rs := [9]) (by kernel_rfl) (by simp) ?_
          refine AllReady.cons rfl (fun K hK => ?_) AllReady.nil
          go_simp
          try (refine hK _ _ ?_; clear hK K)
          refine wpAny_done (by kernel_rfl) ?_ _
          go_wp2
          go_ret
          exact ⟨rfl, ⟨_, by simpa using hEE.out.1⟩, hEE.out.2⟩
        exact AllReady.nil
      exact AllReady.nil
    exact AllReady.nil
end
section
variable {w0 : World} {d g n jb cb mb at_ most : Nat} {blocks : Int} {mem : Nat -> Int} {writes left : Int} {M : Chg} {w w' : World}
theorem all_sees (h : CSt w0 d g n jb cb mb at_ most blocks mem writes left M w) (hl : left ≠ 0) {ab ma fr k : Nat} (hm : MpAt ab cb ma fr k w) (hf : Fits n blocks ma fr k) (hk : k <= 500) (ht : fr + k < 4611686018427387904) :
    Sees 240 #[ptr (w.heap.size + 1), ptr w.heap.size] ab k (fun q => nowM mem M (ma + q)) (fun j wx => ∃ v, Gath w (w.heap.size + 1) w.heap.size ab v (takenL (bitM mem M ma) fr j) wx) (fun _ _ => False) where
  few := hf.k2
  ent := enters_of Tryz.func240 (by kernel_rfl) rfl
  more := fun j wx wy hI hb => by obtain ⟨v, hI⟩ := hI; exact ⟨v, hI.more hb⟩
  cell := fun wx hI => by obtain ⟨v, hI⟩ := hI; exact (hm.below hI.below).c3
  bits := fun j wx hj hI => by
    obtain ⟨v, hI⟩ := hI
    exact (bits_calls (h.more hI.below) hl (hm.below hI.below) hf j hj).mono fun e wy ⟨b, h1, h2, h3, h4⟩ => ⟨b, h1, h2.cell, h4⟩
  call := fun j wx b zs hj hI hr => by
    obtain ⟨v, hI⟩ := hI
    have hle := takenL_len (bitM mem M ma) fr j
    refine (all1_calls (T := bitM mem M ma j) (fr := fr) hI (hm.below hI.below).c2 (by omega) (by omega)).mono ?_
    rintro e wy ⟨rfl, hG, hR⟩
    left
    rw [takenL_succ]
    exact ⟨rfl, hG, hR b zs hr⟩
theorem all_calls (h : CSt w0 d g n jb cb mb at_ most blocks mem writes left M w) (hl : left ≠ 0) {ab ma fr k : Nat} (hm : MpAt ab cb ma fr k w) (hf : Fits n blocks ma fr k) (hk : k <= 500) (ht : fr + k < 4611686018427387904) :
    Calls Tryz.prog 192 #[ptr ab] w fun e w' => ∃ v, e = .returned (.tuple #[v, .nilIface]) /\ Kept w.heap.size w' v (takenL (bitM mem M ma) fr k) /\ Below w.heap.size w w' := by
  have hmf : ∀ (fn : Fn) (first cap : Array Value) (w : World), (Instr.makeFunc fn first cap).run Tryz.prog w = .ok (.func fn first cap) w := fun _ _ _ _ => rfl
  have hB0 : Below w.heap.size w ((w.alloc (.cells #[ptr ab] 93)).alloc (.cells #[.slice none 0 0] 58)) := ((Below.refl _ _).alloc (Nat.le_refl _) _).alloc (by simp) _
  have hG0 : Gath w (w.heap.size + 1) w.heap.size ab (.slice none 0 0) [] ((w.alloc (.cells #[ptr ab] 93)).alloc (.cells #[.slice none 0 0] 58)) :=
    ⟨by simp, by simp, by simp, Kept.nil _ _, fun _ => rfl, ⟨rfl, rfl⟩, hB0⟩
  have hW := hidden (walk_calls (all_sees h hl hm hf hk ht) _ ⟨_, hG0⟩)
  clear h hm hf hG0 hB0
  go_enter Tryz.func192, Tryz.ntmps192
  go_wp2_with fail
  refine (hW.out).mono ?_
  rintro ev w1 ⟨rfl, (⟨v, hG1⟩ | ⟨i, hi, hG1⟩)⟩
  · have c1 := hG1.cell
    have hE := hidden (And.intro (hG1.kept.mono (base' := w.heap.size) (by omega)) hG1.below)
    obtain ⟨av, cv, rfl, -⟩ := hG1.kept.form
    clear hG1 hW
    generalize (takenL (bitM mem M ma) fr k).length = L at c1 hE
    go_wp2
    go_ret2
    exact ⟨_, rfl, hE.out⟩
  · exact hG1.elim
theorem taken_calls (h : CSt w0 d g n jb cb mb at_ most blocks mem writes left M w) (hl : left ≠ 0) {ab ma fr k : Nat} (hm : MpAt ab cb ma fr k w) (hf : Fits n blocks ma fr k) (i : Nat) (hi : i < k) (no : Int) (hno : no = fr + i) :
    Calls Tryz.prog 266 #[ptr ab, .int .i64 no] w fun e w' => e = .returned (.tuple #[.bool (bitM mem M ma i), .nilIface]) /\ Below w.heap.size w w' := by
  have ht := hf.top
  have hT := hidden (itaken_calls h hl hm hf i hi no hno)
  have kI := hidden (fun (wx : World) (hx : Below w.heap.size w wx) => itoa_below no ⟨by omega, by omega⟩ h.sys.ground hx)
  generalize itoaB no = nm at kI
  generalize bitM mem M ma i = T at hT ⊢
  replace hno := hidden hno
  clear h hm hf hl
  go_enter Tryz.func266, Tryz.ntmps266
  go_wp2_with fail
  refine (hT.out).mono ?_
  rintro ev w1 ⟨rfl, hB1⟩
  have hI := hidden (kI.out _ hB1)
  clear hB1 hT
  go_wp2_with fail
  refine (hI.out).mono ?_
  rintro ev w2 ⟨rfl, hB2⟩
  replace hB2 := hidden hB2
  clear hI
  go_wp2_with fail
  refine (awrong_nil _ _).mono ?_
  rintro ev w3 ⟨rfl, rfl⟩
  go_wp2
  go_ret2
  exact ⟨rfl, hB2.out⟩
end
structure TbAt (tb cb ab ta tn : Nat) (w : World) : Prop where
  c0 : w.cell? ⟨tb, 0, none⟩ = some (ptr cb)
  c1 : w.cell? ⟨tb, 1, none⟩ = some (ptr ab)
  c2 : w.cell? ⟨tb, 2, none⟩ = some (.int .i64 ta)
  c3 : w.cell? ⟨tb, 3, none⟩ = some (.int .i64 tn)
theorem TbAt.lt {tb cb ab ta tn : Nat} {w : World} (h : TbAt tb cb ab ta tn w) : tb < w.heap.size := lt_of_cell (a := ⟨tb, 0, none⟩) h.c0
theorem TbAt.keep {tb cb ab ta tn : Nat} {w w' : World} {bs : List Nat} (h : TbAt tb cb ab ta tn w) (ha : Apart bs w w') (hn : tb ∉ bs) : TbAt tb cb ab ta tn w' :=
  ⟨(ha.cell (p := ⟨tb, 0, none⟩) h.lt hn).trans h.c0, (ha.cell (p := ⟨tb, 1, none⟩) h.lt hn).trans h.c1, (ha.cell (p := ⟨tb, 2, none⟩) h.lt hn).trans h.c2, (ha.cell (p := ⟨tb, 3, none⟩) h.lt hn).trans h.c3⟩
theorem TbAt.below {tb cb ab ta tn : Nat} {w w' : World} (h : TbAt tb cb ab ta tn w) (hb : Below w.heap.size w w') : TbAt tb cb ab ta tn w' := h.keep (Apart.of_below (bs := []) hb) (by simp)
theorem ihome_calls {tb cb ab ta tn : Nat} {w : World} (h : TbAt tb cb ab ta tn w) (id : Nat) (h1 : 1 <= id) (h2 : id <= 1000) (h3 : ta <= 1000000) :
    Calls Tryz.prog 171 #[ptr tb, .int .i64 id] w fun e w' => e = .returned (.int .i64 ((ta + id - 1 : Nat) : Int)) /\ w' = w := by
  have c2 := h.c2
  have hlt := h.lt
  have e : Hid ((ta : Int) + (id : Int) - 1 = ((ta + id - 1 : Nat) : Int)) := hidden (by omega)
  clear h
  generalize ((ta + id - 1 : Nat) : Int) = q at e ⊢
  go_enter Tryz.func171, Tryz.ntmps171
  go_wp2
  go_ret
  exact ⟨congrArg (fun x => Ending.returned (Value.int .i64 x)) e.out, rfl⟩
structure Nd where
  kind : Nat
  size : Nat
  list : List Int
def Nd.ok (x : Nd) : Prop := ((x.kind = 0 /\ x.size = 0 /\ x.list = []) \/ (x.kind = 1 \/ x.kind = 2)) /\ x.size <= 4000 /\ (x.list.length : Int) = blk x.size /\ ∀ z ∈ x.list, 0 <= z /\ z < 2147483648
theorem recL_free : recL 0 0 [] = zeros 128 := rfl
structure RC (w : World) (b : Nat) : Prop where
  nd : NdAt w b 0 0 (.slice none 0 0)
  fz : ∀ j, w.frozen? ⟨b, j, none⟩ = false
theorem rc_new (w : World) : RC (w.alloc (Obj.cells #[Value.int IntKind.i64 0, Value.int IntKind.i64 0, Value.slice none 0 0] 151)) w.heap.size := ⟨⟨by simp, by simp, by simp⟩, by simp⟩
theorem RC.lt {w : World} {b : Nat} (h : RC w b) : b < w.heap.size := lt_of_cell (a := ⟨b, 0, none⟩) h.nd.c0
theorem RC.keep {w w' : World} {b : Nat} {bs : List Nat} (h : RC w b) (ha : Apart bs w w') (hn : b ∉ bs) : RC w' b := ⟨h.nd.keep ha hn, fun j => (ha.frozen (p := ⟨b, j, none⟩) h.lt hn).trans (h.fz j)⟩
theorem RC.below {w w' : World} {b : Nat} (h : RC w b) (hb : Below w.heap.size w w') : RC w' b := h.keep (Apart.of_below (bs := []) hb) (by simp)
theorem nd_end {w w4 : World} {b base : Nat} {K S k s : Int} {v v0 : Value} {l : List Int} (hN : NdAt w4 b k s v0) (hK : Kept base w4 v l) (hb : b < base) (hB : Below w.heap.size w w4) (hwb : w.heap.size <= b) (o : Obj) :
    NdAt ((((w4.setCell ⟨b, 0, none⟩ (.int .i64 K)).setCell ⟨b, 1, none⟩ (.int .i64 S)).setCell ⟨b, 2, none⟩ v).alloc o) b K S v /\ Kept w.heap.size ((((w4.setCell ⟨b, 0, none⟩ (.int .i64 K)).setCell ⟨b, 1, none⟩ (.int .i64 S)).setCell ⟨b, 2, none⟩ v).alloc o) v l /\ Below w.heap.size w ((((w4.setCell ⟨b, 0, none⟩ (.int .i64 K)).setCell ⟨b, 1, none⟩ (.int .i64 S)).setCell ⟨b, 2, none⟩ v).alloc o) := by
  have hl : b < w4.heap.size := lt_of_cell (a := ⟨b, 0, none⟩) hN.c0
  have hA := (nd_apart w4 b (.int .i64 K) (.int .i64 S) v).alloc o
  refine ⟨(nd_stored hN).below ((Below.refl _ _).alloc (Nat.le_refl _) o), (hK.keep hA (by simp; omega)).mono (by omega), hB.trans (hA.below (by simp; omega) hB.size)⟩
theorem parse_any {w : World} {rb : Nat} {x : Nd} (hx : x.ok) (hL : Lie w rb (recL x.kind x.size x.list)) :
    Calls Tryz.prog 211 #[.slice (some ⟨rb, 0, none⟩) 128 128] w fun e w' => ∃ v, e = .returned (.tuple #[nodeV x.kind x.size v, .bool true]) /\ Kept w.heap.size w' v (x.list.take 9) /\ Below w.heap.size w w' := by
  obtain ⟨h1, h2, h3, h4⟩ := hx
  rcases h1 with ⟨e1, e2, e3⟩ | h1
  · rw [e1, e2, e3, recL_free] at hL
    rw [e1, e2, e3]
    refine (parse_free hL).mono ?_
    rintro e w' ⟨rfl, hB⟩
    exact ⟨_, rfl, Kept.nil _ _, hB⟩
  · exact parse_calls hL h1 h2 h3 h4
section
variable {w0 : World} {d g n jb cb mb at_ most : Nat} {blocks : Int} {mem : Nat -> Int} {writes left : Int} {M : Chg} {w w' : World} {tb ab ta tn : Nat}
theorem record_calls (h : CSt w0 d g n jb cb mb at_ most blocks mem writes left M w) (hl : left ≠ 0) (ht : TbAt tb cb ab ta tn w) (htn : tn <= 1000) (hta : ta <= 1000000) (id : Nat) (h1 : 1 <= id) (h2 : id <= tn) (hn : ta + id - 1 < n) (hb : ((ta + id - 1 : Nat) : Int) < blocks) {x : Nd} (hx : x.ok) (hrow : nowM mem M (ta + id - 1) = recL x.kind x.size x.list) :
    Calls Tryz.prog 165 #[ptr tb, .int .i64 id] w fun e w' => ∃ v, e = .returned (.tuple #[nodeV x.kind x.size v, .nilIface]) /\ Kept w.heap.size w' v (x.list.take 9) /\ Below w.heap.size w w' := by
  have hlt := ht.lt
  have kc := hidden (fun (wx : World) (hB : Below w.heap.size w wx) => (ht.below hB))
  have kH := hidden (fun (wx : World) (hB : Below w.heap.size w wx) => ihome_calls (ht.below hB) id h1 (by omega) hta)
  have kR := hidden (fun (wx : World) (hB : Below w.heap.size w wx) => read_calls (h.more hB) hl (ta + id - 1) hn hb)
  rw [hrow] at kR
  have kP := hidden (fun (wx : World) (rb : Nat) (hL : Lie wx rb (recL x.kind x.size x.list)) => parse_any hx hL)
  have hwa : Hid (w.alloc (Obj.cells #[Value.int IntKind.i64 0, Value.int IntKind.i64 0, Value.slice none 0 0] 151) = w.alloc (Obj.cells #[Value.int IntKind.i64 0, Value.int IntKind.i64 0, Value.slice none 0 0] 151)) := hidden rfl
  have hBa : Below w.heap.size w (w.alloc (Obj.cells #[Value.int IntKind.i64 0, Value.int IntKind.i64 0, Value.slice none 0 0] 151)) := (Below.refl _ _).alloc (Nat.le_refl _) _
  have hRa := rc_new w
  have hsa : (w.alloc (Obj.cells #[Value.int IntKind.i64 0, Value.int IntKind.i64 0, Value.slice none 0 0] 151)).heap.size = w.heap.size + 1 := by simp
  generalize recL x.kind x.size x.list = rw_ at kR kP
  generalize x.list.take 9 = l at kP ⊢
  generalize (x.kind : Int) = K at kP ⊢
  generalize (x.size : Int) = S at kP ⊢
  clear hrow h hl hx hn hb hwa
  have hid1 : ¬ ((id : Int) < 1) := by omega
  have hid2 : ¬ ((tn : Int) < (id : Int)) := by omega
  go_enter Tryz.func165, Tryz.ntmps165
  go_upto_region 1 with fail
  generalize w.alloc (Obj.cells #[Value.int IntKind.i64 0, Value.int IntKind.i64 0, Value.slice none 0 0] 151) = wa at *
  have ca := kc.out wa hBa
  have ca0 := ca.c0
  have ca3 := ca.c3
  have hBd := hidden (hBa.trans ((below_drew1 wa).mono hBa.size))
  have hBd1 := hidden (below_drew1 wa)
  replace hRa := hidden hRa
  clear ca
  go_upto_region 3 with fail
  go_cut [6, 7] (fun p q wx => ∃ b, p = .slice (some ⟨b, 0, none⟩) 128 128 /\ q = .nilIface /\ Lie wx b rw_ /\ Below wa.heap.size wa wx)
  case first =>
    go_region_with (first
      | (go_at_call 171; refine (kH.out _ hBd.out).mono ?_; rintro ev w2 ⟨rfl, rfl⟩)
      | (go_at_call 187; refine (kR.out _ hBd.out).mono ?_; rintro ev w3 ⟨b, rfl, hL, hb, hB⟩; have hE := hidden (And.intro hL (hBd1.out.trans (hB.mono hBd1.out.size))); clear hL hB hb))
    all_goals (go_wp2; go_meet; case rel => exact ⟨_, rfl, rfl, hE.out⟩)
  case rest =>
    rename World => wb
    obtain ⟨b, rfl, rfl, hL, hB⟩ := hcut
    have hP := hidden (kP.out _ _ hL)
    have hR := hidden (hRa.out.below hB)
    replace hB := hidden hB
    clear hL kP kR kH
    go_wp2_with fail
    refine (hP.out).mono ?_
    rintro ev w4 ⟨v, rfl, hK, hB4⟩
    have hR4 := hR.out.below hB4
    obtain ⟨av, cv, rfl, -⟩ := hK.form
    have r0 := hR4.nd.c0
    have r1 := hR4.nd.c1
    have r2 := hR4.nd.c2
    have f0 := hR4.fz 0
    have f1 := hR4.fz 1
    have f2 := hR4.fz 2
    have hlt4 := hR4.lt
    have hB2 := (hBa.trans (hB.out.mono hBa.size)).trans (hB4.mono (Nat.le_trans hBa.size hB.out.size))
    have hE := hidden (And.intro (hK.mono (base' := w.heap.size + 1) (by have := hB.out.size; omega)) (And.intro hB2 hR4.lt))
    clear hK hB4 hB2 hR4
    generalize l.length = LL at *
    go_wp2
    (try simp only [Exit.inBlock, Exit.then])
    obtain ⟨e1, e2, e3⟩ := hE.out
    obtain ⟨q1, q2, q3⟩ := nd_end (K := K) (S := S) ⟨r0, r1, r2⟩ e1 (Nat.lt_succ_self _) e2 (Nat.le_refl _) (Obj.cells #[Value.int IntKind.i64 K, Value.int IntKind.i64 S, Value.slice av LL cv] 151)
    exact bodyPost_ret (ret_node rfl rfl q1) rfl ⟨_, rfl, q2, q3⟩
end
section
variable {w0 : World} {d g n jb cb mb at_ most : Nat} {blocks : Int} {mem : Nat -> Int} {writes left : Int} {M : Chg} {w w' : World} {tb ab ta tn : Nat}
theorem used_calls {w : World} {tb : Nat} {id K S : Int} {l : List Int} (hK : ¬ K = 0)
    (kR : ∀ wx, Below w.heap.size w wx -> Calls Tryz.prog 165 #[ptr tb, .int .i64 id] wx fun e w' => ∃ v, e = .returned (.tuple #[nodeV K S v, .nilIface]) /\ Kept wx.heap.size w' v l /\ Below wx.heap.size wx w') :
    Calls Tryz.prog 189 #[ptr tb, .int .i64 id] w fun e w' => ∃ v, e = .returned (.tuple #[nodeV K S v, .nilIface]) /\ Kept w.heap.size w' v l /\ Below w.heap.size w w' := by
  have hBa : Below w.heap.size w (w.alloc (Obj.cells #[Value.int IntKind.i64 0, Value.int IntKind.i64 0, Value.slice none 0 0] 151)) := (Below.refl _ _).alloc (Nat.le_refl _) _
  have hRa := rc_new w
  have hsa : (w.alloc (Obj.cells #[Value.int IntKind.i64 0, Value.int IntKind.i64 0, Value.slice none 0 0] 151)).heap.size = w.heap.size + 1 := by simp
  replace kR := hidden (kR _ hBa)
  generalize hwa : w.alloc (Obj.cells #[Value.int IntKind.i64 0, Value.int IntKind.i64 0, Value.slice none 0 0] 151) = wa at *
  replace hRa := hidden hRa
  replace hBa := hidden hBa
  go_enter Tryz.func189, Tryz.ntmps189
  go_wp2_with fail
  refine (kR.out).mono ?_
  rintro ev w4 ⟨v, rfl, hKp, hB4⟩
  have hR4 := hRa.out.below hB4
  obtain ⟨av, cv, rfl, -⟩ := hKp.form
  have r0 := hR4.nd.c0
  have r1 := hR4.nd.c1
  have r2 := hR4.nd.c2
  have f0 := hR4.fz 0
  have f1 := hR4.fz 1
  have f2 := hR4.fz 2
  have hlt4 := hR4.lt
  have hE := hidden (And.intro (hKp.mono (base' := w.heap.size + 1) (by omega)) (hBa.out.trans (hB4.mono hBa.out.size)))
  clear hKp hB4 hR4 hwa
  generalize l.length = LL at *
  go_wp2
  (try simp only [Exit.inBlock, Exit.then])
  obtain ⟨e1, e2⟩ := hE.out
  obtain ⟨q1, q2, q3⟩ := nd_end (K := K) (S := S) ⟨r0, r1, r2⟩ e1 (Nat.lt_succ_self _) e2 (Nat.le_refl _) (Obj.cells #[Value.int IntKind.i64 K, Value.int IntKind.i64 S, Value.slice av LL cv] 151)
  exact bodyPost_ret (ret_node rfl rfl q1) rfl ⟨_, rfl, q2, q3⟩
end
theorem sidx_calls {w : World} {v : Value} {ks : List Int} (hv : IntsAt w v ks) (x : Int) (hx : x ∉ ks) (hl : ks.length <= 1000) :
    Calls Tryz.prog 308 #[v, .int .i64 x] w fun e w' => e = .returned (.int .i64 (-1)) /\ w' = w := by
  obtain ⟨a, cap, rfl, -, -, -, hc⟩ := hv
  have kc := hidden (fun (k : Nat) (hk : k < ks.length) => show ∃ b off y, a = some ⟨b, off, none⟩ /\ w.cell? ⟨b, off + k, none⟩ = some (.int .i64 y) /\ ¬ y = x from by
    obtain ⟨b, off, ha, -, hcell⟩ := hc (by intro e; rw [e] at hk; simp at hk)
    refine ⟨b, off, _, ha, hcell k hk, fun e => hx ?_⟩
    rw [<- e, List.getD_eq_getElem?_getD, List.getElem?_eq_getElem hk]
    exact List.getElem_mem _)
  clear hc hx
  generalize ks.length = L at *
  go_enter Tryz.func308, Tryz.ntmps308
  go_wp2_with fail
  go_loopg [8] (L + 1) (fun gk q wr => ∃ j : Nat, j <= L /\ gk = L + 1 - j /\ q = .int .i64 j /\ wr = w)
  case atStart => exact ⟨0, by omega, rfl, rfl, rfl⟩
  case round =>
    obtain ⟨j, hj, hgk, rfl, rfl⟩ := hrel
    replace hgk := hidden hgk
    by_cases hlt : j < L
    · obtain ⟨b, off, y, rfl, hcl, hne⟩ := kc.out j hlt
      have hne' : ¬ x = y := fun e => hne e.symm
      go_wp2
      go_roundg (L + 1 - (j + 1))
      case measure => rw [hgk.out]; omega
      case rel => exact ⟨j + 1, by omega, rfl, by go_num, rfl⟩
    · obtain rfl : j = L := by omega
      go_wp2
      go_ret
      exact ⟨rfl, rfl⟩
theorem scont_calls {w : World} {v : Value} {ks : List Int} (hv : IntsAt w v ks) (x : Int) (hx : x ∉ ks) (hl : ks.length <= 1000) :
    Calls Tryz.prog 267 #[v, .int .i64 x] w fun e w' => e = .returned (.bool false) /\ w' = w := by
  have hI := hidden (sidx_calls hv x hx hl)
  obtain ⟨a, cap, rfl, -⟩ := hv
  go_enter Tryz.func267, Tryz.ntmps267
  go_wp2_with fail
  refine (hI.out).mono ?_
  rintro ev w1 ⟨rfl, rfl⟩
  go_wp2
  go_ret
  exact ⟨rfl, rfl⟩
section
variable {w0 : World} {d g n jb cb mb at_ most : Nat} {blocks : Int} {mem : Nat -> Int} {writes left : Int} {M : Chg} {w w' : World} {tb ab ta tn : Nat}
theorem had_calls (h : CSt w0 d g n jb cb mb at_ most blocks mem writes left M w) (hl : left ≠ 0) {ma fr k : Nat} (hm : MpAt ab cb ma fr k w) (hf : Fits n blocks ma fr k) (ht : TbAt tb cb ab ta tn w) {v : Value} {ks : List Int} (hv : IntsAt w v ks) (hL : ks.length <= 1000) (hnd : ks.Nodup) (hmine : ∀ z ∈ ks, ∃ i, i < k /\ z = fr + (i : Int) /\ bitM mem M ma i = true) :
    Calls Tryz.prog 219 #[ptr tb, v] w fun e w' => e = .returned .nilIface /\ Below w.heap.size w w' := by
  have hlt := ht.lt
  have hv0 := hidden hv
  obtain ⟨a, cap, rfl, hcap, -, -, hc⟩ := hv
  have kT := hidden (fun (wx : World) (hx : Below w.heap.size w wx) (j : Nat) (hj : j < ks.length) => show Calls Tryz.prog 266 #[ptr ab, .int .i64 (ks.getD j 0)] wx fun e w' => e = .returned (.tuple #[.bool true, .nilIface]) /\ Below wx.heap.size wx w' from by
    obtain ⟨i, hi, hz, hb⟩ := hmine (ks.getD j 0) (by rw [List.getD_eq_getElem?_getD, List.getElem?_eq_getElem hj]; exact List.getElem_mem _)
    have := taken_calls (h.more hx) hl (hm.below hx) hf i hi _ hz
    rw [hb] at this
    exact this)
  have kc := hidden (fun (wx : World) (hx : Below w.heap.size w wx) (k : Nat) (hk : k < ks.length) => show ∃ b off, a = some ⟨b, off, none⟩ /\ wx.cell? ⟨b, off + k, none⟩ = some (.int .i64 (ks.getD k 0)) from by
    obtain ⟨b, off, ha, hb, hcell⟩ := hc (by intro e; rw [e] at hk; simp at hk)
    exact ⟨b, off, ha, (hx.cell (p := ⟨b, off + k, none⟩) hb).trans (hcell k hk)⟩)
  have kC := hidden (fun (wx : World) (hx : Below w.heap.size w wx) (j : Nat) (hj : j < ks.length) => scont_calls ((hv0.out.below hx).take j (by omega)) (ks.getD j 0) (by
    rw [List.getD_eq_getElem?_getD, List.getElem?_eq_getElem hj]
    show ks[j] ∉ ks.take j
    intro hmem
    obtain ⟨i, hi, e⟩ := List.getElem_of_mem hmem
    rw [List.getElem_take] at e
    rw [List.length_take] at hi
    exact List.pairwise_iff_getElem.1 hnd i j (by omega) hj (by omega) e) (by rw [List.length_take]; omega))
  have k0 := hidden (fun (wx : World) (hx : Below w.heap.size w wx) => (ht.below hx).c1)
  clear h hm hf ht hmine hnd hc hv0
  generalize ks.length = L at *
  go_enter Tryz.func219, Tryz.ntmps219
  go_wp2_with fail
  go_loopg [11] (L + 1) (fun gk q wr => ∃ j : Nat, j <= L /\ gk = L + 1 - j /\ q = .int .i64 j /\ Hid (Below w.heap.size w wr))
  case atStart => exact ⟨0, by omega, rfl, rfl, hidden (Below.refl _ _)⟩
  case round =>
    obtain ⟨j, hj, hgk, rfl, hI⟩ := hrel
    replace hgk := hidden hgk
    by_cases hlt' : j < L
    · obtain ⟨b, off, rfl, hcl⟩ := kc.out _ hI.out j hlt'
      have c1 := k0.out _ hI.out
      have hT := hidden (kT.out _ hI.out j hlt')
      have hwlt : tb < wr.heap.size := Nat.lt_of_lt_of_le hlt hI.out.size
      have hC := hidden (fun (wx : World) (hx : Below w.heap.size w wx) => kC.out wx hx j hlt')
      generalize ks.getD j 0 = x at hcl hT hC
      clear kC kT kc
      go_wp2_with fail
      refine (hT.out).mono ?_
      rintro ev w2 ⟨rfl, hB2⟩
      have hB := hidden (hI.out.trans (hB2.mono hI.out.size))
      clear hT hB2
      go_wp2_with fail
      refine (is_nil 1 _).mono ?_
      rintro ev w3 ⟨rfl, rfl⟩
      go_wp2_with fail
      refine (hC.out _ hB.out).mono ?_
      rintro ev w4 ⟨rfl, rfl⟩
      go_wp2
      go_roundg (L + 1 - (j + 1))
      case measure => rw [hgk.out]; omega
      case rel => exact ⟨j + 1, by omega, rfl, by go_num, hB⟩
    · obtain rfl : j = L := by omega
      go_wp2
      go_ret
      exact ⟨rfl, hI.out⟩
end
theorem nd_end0 {w w4 : World} {b base : Nat} {K S k s : Int} {v v0 : Value} {l : List Int} (hN : NdAt w4 b k s v0) (hK : Kept base w4 v l) (hb : b < base) (hB : Below w.heap.size w w4) (hwb : w.heap.size <= b) :
    NdAt (((w4.setCell ⟨b, 0, none⟩ (.int .i64 K)).setCell ⟨b, 1, none⟩ (.int .i64 S)).setCell ⟨b, 2, none⟩ v) b K S v /\ Kept w.heap.size (((w4.setCell ⟨b, 0, none⟩ (.int .i64 K)).setCell ⟨b, 1, none⟩ (.int .i64 S)).setCell ⟨b, 2, none⟩ v) v l /\ Below w.heap.size w (((w4.setCell ⟨b, 0, none⟩ (.int .i64 K)).setCell ⟨b, 1, none⟩ (.int .i64 S)).setCell ⟨b, 2, none⟩ v) := by
  have hA := nd_apart w4 b (.int .i64 K) (.int .i64 S) v
  exact ⟨nd_stored hN, (hK.keep hA (by simp; omega)).mono (by omega), hB.trans (hA.below (by simp; omega) hB.size)⟩
theorem load_short {w : World} {tb : Nat} {id K S : Int} {l : List Int} (hl : l.length < 9)
    (kU : ∀ wx, Below w.heap.size w wx -> Calls Tryz.prog 189 #[ptr tb, .int .i64 id] wx fun e w' => ∃ v, e = .returned (.tuple #[nodeV K S v, .nilIface]) /\ Kept wx.heap.size w' v l /\ Below wx.heap.size wx w')
    (kH : ∀ wx v, Below w.heap.size w wx -> IntsAt wx v l -> Calls Tryz.prog 219 #[ptr tb, v] wx fun e w' => e = .returned .nilIface /\ Below wx.heap.size wx w') :
    Calls Tryz.prog 174 #[ptr tb, .int .i64 id] w fun e w' => ∃ v, e = .returned (.tuple #[nodeV K S v, .nilIface]) /\ Kept w.heap.size w' v l /\ Below w.heap.size w w' := by
  have hBa : Below w.heap.size w (w.alloc (Obj.cells #[Value.int IntKind.i64 0, Value.int IntKind.i64 0, Value.slice none 0 0] 151)) := (Below.refl _ _).alloc (Nat.le_refl _) _
  have hRa := rc_new w
  have hsa : (w.alloc (Obj.cells #[Value.int IntKind.i64 0, Value.int IntKind.i64 0, Value.slice none 0 0] 151)).heap.size = w.heap.size + 1 := by simp
  replace kU := hidden (kU _ hBa)
  generalize hwa : w.alloc (Obj.cells #[Value.int IntKind.i64 0, Value.int IntKind.i64 0, Value.slice none 0 0] 151) = wa at *
  replace hRa := hidden hRa
  replace hBa := hidden hBa
  replace kH := hidden kH
  go_enter Tryz.func174, Tryz.ntmps174
  go_wp2_with fail
  refine (kU.out).mono ?_
  rintro ev w4 ⟨v, rfl, hKp, hB4⟩
  have hB04 := hBa.out.trans (hB4.mono hBa.out.size)
  have hB5 : Below w4.heap.size w4 (w4.alloc (.cells #[.int .i64 K, .int .i64 S, v] 151)) := (Below.refl _ _).alloc (Nat.le_refl _) _
  have hN5 : NdAt (w4.alloc (.cells #[.int .i64 K, .int .i64 S, v] 151)) w4.heap.size K S v := ⟨by simp, by simp, by simp⟩
  have hB05 := hB04.trans (hB5.mono hB04.size)
  have hK5 := hKp.below hB5
  have hR5 := (hRa.out.below hB4).below hB5
  have hH := hidden (kH.out _ v hB05 hK5.ints)
  have hwb : w.heap.size + 1 <= w4.heap.size := by have := hB4.size; omega
  obtain ⟨av, cv, rfl, -⟩ := hKp.form
  have hs5 : (w4.alloc (.cells #[.int .i64 K, .int .i64 S, .slice av l.length cv] 151)).heap.size = w4.heap.size + 1 := by simp
  generalize hw5 : w4.alloc (.cells #[.int .i64 K, .int .i64 S, .slice av l.length cv] 151) = w5 at *
  have hE := hidden (And.intro (hK5.mono (base' := w.heap.size + 1) (by omega)) (And.intro hB05 (And.intro hN5 hR5)))
  have n2 := hN5.c2
  clear hKp hB4 hK5 hR5 hN5 hB05 hB04 kU kH hwa
  generalize l.length = LL at *
  go_wp2_with fail
  refine (hH.out).mono ?_
  rintro ev w6 ⟨rfl, hB6⟩
  obtain ⟨e1, e2, e3, e4⟩ := hE.out
  have hN6 := e3.below hB6
  have hR6 := e4.below hB6
  have m0 := hN6.c0
  have m1 := hN6.c1
  have m2 := hN6.c2
  have r0 := hR6.nd.c0
  have r1 := hR6.nd.c1
  have r2 := hR6.nd.c2
  have f0 := hR6.fz 0
  have f1 := hR6.fz 1
  have f2 := hR6.fz 2
  have hE6 := hidden (And.intro (e1.below hB6) (e2.trans (hB6.mono e2.size)))
  clear e1 e2 e3 e4 hN6 hR6 hB6 hE hw5 n2 hH
  have hl' : (LL : Int) < 9 := by omega
  go_wp2
  (try simp only [Exit.inBlock, Exit.then])
  obtain ⟨q1, q2, q3⟩ := nd_end0 (K := K) (S := S) ⟨r0, r1, r2⟩ hE6.out.1 (Nat.lt_succ_self _) hE6.out.2 (Nat.le_refl _)
  exact bodyPost_ret (ret_node rfl rfl q1) rfl ⟨_, rfl, q2, q3⟩
theorem Kept.keep2 {base : Nat} {w w' : World} {v : Value} {ks : List Int} {bs : List Nat} (h : Kept base w v ks) (ha : Apart bs w w') (hb : ∀ g, v.ownBlock = some g -> g ∉ bs) : Kept base w' v ks := by
  refine ⟨h.row.1, ?_⟩
  rcases h.row.2 with h0 | ⟨g, cap, cur, hv, h1, hh, rest⟩
  · exact Or.inl h0
  · have hlt : g < w.heap.size := by
      rcases Nat.lt_or_ge g w.heap.size with h | h
      · exact h
      · rw [Array.getElem?_eq_none h] at hh; cases hh
    exact Or.inr ⟨g, cap, cur, hv, h1, (ha.block g hlt (hb g (by rw [hv]; rfl))).trans hh, rest⟩
theorem restL_nums (ks : List Int) (k : Nat) (hk : k < 4 * (ks.drop 9).length) : (restL ks).getD k 0 = (numsL (ks.drop 9)).getD k 0 := by
  unfold restL
  rw [List.getD_eq_getElem?_getD, List.getElem?_append_left (by rw [numsL_len]; exact hk), <- List.getD_eq_getElem?_getD]
theorem restL_zero (ks : List Int) (k : Nat) (hk : 4 * (ks.drop 9).length <= k) : (restL ks).getD k 0 = 0 := by
  unfold restL
  rw [List.getD_eq_getElem?_getD, List.getElem?_append_right (by rw [numsL_len]; exact hk)]
  unfold zeros
  rw [List.getElem?_replicate]
  split <;> rfl
theorem load_long {w : World} {tb cb : Nat} {id K S : Int} {ks : List Int} (hl : 9 < ks.length) (hl2 : ks.length <= 33) (hblk : (ks.length : Int) = blk S) (hks : ∀ z ∈ ks, 0 <= z /\ z < 2147483648) (c0 : w.cell? ⟨tb, 0, none⟩ = some (ptr cb))
    (kU : ∀ wx, Below w.heap.size w wx -> Calls Tryz.prog 189 #[ptr tb, .int .i64 id] wx fun e w' => ∃ v, e = .returned (.tuple #[nodeV K S v, .nilIface]) /\ Kept wx.heap.size w' v (ks.take 9) /\ Below wx.heap.size wx w')
    (kH : ∀ wx v l, Below w.heap.size w wx -> IntsAt wx v l -> (l = ks.take 9 \/ l = ks) -> Calls Tryz.prog 219 #[ptr tb, v] wx fun e w' => e = .returned .nilIface /\ Below wx.heap.size wx w')
    (kR : ∀ wx, Below w.heap.size w wx -> Calls Tryz.prog 187 #[ptr cb, .int .i64 (ks.getD 8 0)] wx fun e w' => ∃ b, e = .returned (.tuple #[.slice (some ⟨b, 0, none⟩) 128 128, .nilIface]) /\ Lie w' b (restL ks) /\ wx.heap.size <= b /\ Below wx.heap.size wx w') :
    Calls Tryz.prog 174 #[ptr tb, .int .i64 id] w fun e w' => ∃ v, e = .returned (.tuple #[nodeV K S v, .nilIface]) /\ Kept w.heap.size w' v ks /\ Below w.heap.size w w' := by
  have htb : tb < w.heap.size := lt_of_cell (a := ⟨tb, 0, none⟩) c0
  have kc0 := hidden (fun (wx : World) (hx : Below w.heap.size w wx) => (hx.cell (p := ⟨tb, 0, none⟩) htb).trans c0)
  have hBa : Below w.heap.size w (w.alloc (Obj.cells #[Value.int IntKind.i64 0, Value.int IntKind.i64 0, Value.slice none 0 0] 151)) := (Below.refl _ _).alloc (Nat.le_refl _) _
  have hRa := rc_new w
  have hsa : (w.alloc (Obj.cells #[Value.int IntKind.i64 0, Value.int IntKind.i64 0, Value.slice none 0 0] 151)).heap.size = w.heap.size + 1 := by simp
  have ht9 : (ks.take 9).length = 9 := by rw [List.length_take]; omega
  have hz8 : (ks.take 9).getD 8 0 = ks.getD 8 0 := by simp [List.getD]
  have hdl : (ks.drop 9).length = ks.length - 9 := List.length_drop
  have happ : ks.take 9 ++ ks.drop 9 = ks := List.take_append_drop 9 ks
  have hNum := hidden (fun (wx : World) (rb : Nat) (hL : Lie wx rb (restL ks)) (m : Int) (hm : m = ((ks.drop 9).length : Nat)) => numbers_calls (w := wx) rb 0 128 128 (ks.drop 9) (fun k hk => by
    rw [Nat.zero_add, hL.cell k (by omega), restL_nums ks k hk]) (fun z hz => hks z (List.mem_of_mem_drop hz)) (by omega) (by omega) (by omega) hL.lt m hm)
  have hNo := hidden (fun (wx : World) (rb : Nat) (hL : Lie wx rb (restL ks)) (o n c : Nat) (ho : o = 0 + 4 * (ks.drop 9).length) (hn : n = 128 - 4 * (ks.drop 9).length) => noughts_calls n (by omega) wx (some ⟨rb, o, none⟩) c (fun k hk => ⟨rb, o, rfl, by
    rw [hL.cell _ (by omega), restL_zero ks _ (by omega)]⟩))
  have hBlk := hidden (fun (wx : World) => blocks_calls S wx)
  have hbr := blk_range S
  have hbB : Hid (blk S - 9 = (((ks.drop 9).length : Nat) : Int)) := hidden (by omega)
  have hne : ks.drop 9 ≠ [] := by intro e; rw [e] at hdl; simp at hdl; omega
  generalize blk S = B at *
  replace kU := hidden (kU _ hBa)
  generalize hwa : w.alloc (Obj.cells #[Value.int IntKind.i64 0, Value.int IntKind.i64 0, Value.slice none 0 0] 151) = wa at *
  replace hRa := hidden hRa
  replace hBa := hidden hBa
  replace kH := hidden kH
  replace kR := hidden kR
  generalize restL ks = RS at *
  generalize ks.getD 8 0 = z8 at *
  generalize hl9 : ks.take 9 = l at *
  generalize hdd : ks.drop 9 = l2 at *
  replace hl9 := hidden hl9
  replace hdl := hidden hdl
  replace hdd := hidden hdd
  replace happ := hidden happ
  replace hks := hidden hks
  replace hblk := hidden hblk
  go_enter Tryz.func174, Tryz.ntmps174
  go_wp2_with fail
  refine (kU.out).mono ?_
  rintro ev w4 ⟨v, rfl, hKp, hB4⟩
  have hB04 := hBa.out.trans (hB4.mono hBa.out.size)
  have hB5 : Below w4.heap.size w4 (w4.alloc (.cells #[.int .i64 K, .int .i64 S, v] 151)) := (Below.refl _ _).alloc (Nat.le_refl _) _
  have hN5 : NdAt (w4.alloc (.cells #[.int .i64 K, .int .i64 S, v] 151)) w4.heap.size K S v /\ ∀ j, (w4.alloc (.cells #[.int .i64 K, .int .i64 S, v] 151)).frozen? ⟨w4.heap.size, j, none⟩ = false := ⟨⟨by simp, by simp, by simp⟩, by simp⟩
  have hB05 := hB04.trans (hB5.mono hB04.size)
  have hK5 := hKp.below hB5
  have hR5 := (hRa.out.below hB4).below hB5
  have hH := hidden (kH.out _ v l hB05 hK5.ints (Or.inl rfl))
  have hwb : w.heap.size + 1 <= w4.heap.size := by have := hB4.size; omega
  have hob : ∀ g, v.ownBlock = some g -> g < w4.heap.size := fun g hg => (hKp.row.lt g hg).2
  obtain ⟨av, cv, rfl, hf9⟩ := hKp.form
  obtain ⟨lb, rfl, -, hlb, hlc⟩ := hf9 (by intro e; rw [e] at ht9; simp at ht9)
  rw [ht9] at *
  clear ht9
  have hc8 := hlc 8 (by omega)
  rw [hz8] at hc8
  have hs5 : (w4.alloc (.cells #[.int .i64 K, .int .i64 S, .slice (some ⟨lb, 0, none⟩) 9 cv] 151)).heap.size = w4.heap.size + 1 := by simp
  have hc85 := (hB5.cell (p := ⟨lb, 8, none⟩) hlb).trans hc8
  generalize hw5 : w4.alloc (.cells #[.int .i64 K, .int .i64 S, .slice (some ⟨lb, 0, none⟩) 9 cv] 151) = w5 at *
  have hE := hidden (And.intro (hK5.mono (base' := w.heap.size + 1) (by omega)) (And.intro hB05 (And.intro hN5 (And.intro hR5 (And.intro hc85 hob)))))
  have n2 := hN5.1.c2
  clear hKp hB4 hK5 hR5 hN5 hB05 hB04 kU hwa hlc hc8 hc85 hf9 hob
  go_wp2_with fail
  refine (hH.out).mono ?_
  rintro ev w6 ⟨rfl, hB6⟩
  obtain ⟨e1, e2, e3, e4, e5, e6⟩ := hE.out
  have hlt5 : w4.heap.size < w5.heap.size := by omega
  have hN6 := e3.1.below hB6
  have hF6 : ∀ j, w6.frozen? ⟨w4.heap.size, j, none⟩ = false := fun j => (hB6.frozen (p := ⟨w4.heap.size, j, none⟩) hlt5).trans (e3.2 j)
  have hR6 := e4.below hB6
  have c86 := (hB6.cell (p := ⟨lb, 8, none⟩) (by show lb < _; omega)).trans e5
  have m0 := hN6.c0
  have m1 := hN6.c1
  have m2 := hN6.c2
  have hB06 := e2.trans (hB6.mono e2.size)
  have c06 := kc0.out _ hB06
  have htb6 : tb < w6.heap.size := lt_of_cell (a := ⟨tb, 0, none⟩) c06
  have hBd := hidden (hB06.trans ((below_drew1 w6).mono hB06.size))
  have hBd1 := hidden (below_drew1 w6)
  have hE6 := hidden (And.intro (e1.below hB6) (And.intro hB06 (And.intro hN6 (And.intro hF6 (And.intro hR6 e6)))))
  have hs6 := hB6.size
  clear e1 e2 e3 e4 e5 e6 hN6 hR6 hB6 hE hw5 n2 hH hF6 hB06
  go_upto_region 9 with fail
  go_cut [9, 7] (fun p q wx => ∃ b, p = .slice (some ⟨b, 0, none⟩) 128 128 /\ q = .nilIface /\ Lie wx b RS /\ Below w6.heap.size w6 wx)
  case first =>
    go_region_with (go_at_call 187; refine (kR.out _ hBd.out).mono ?_; rintro ev w7 ⟨b, rfl, hL, hb, hB⟩; have hE7 := hidden (And.intro hL (hBd1.out.trans (hB.mono hBd1.out.size))); clear hL hB hb)
    all_goals (go_wp2; go_meet; case rel => exact ⟨_, rfl, rfl, hE7.out⟩)
  case rest =>
    rename World => w7
    obtain ⟨b, rfl, rfl, hL7, hB7⟩ := hcut
    have hm17 := (hB7.cell (p := ⟨w4.heap.size, 1, none⟩) (by show w4.heap.size < _; omega)).trans m1
    have hN7 := hidden (hNum.out w7 b hL7)
    have hLB := hidden (And.intro hL7 hB7)
    clear m0 m1 m2 c86 c06 hL7 hB7 hNum kR hBd hBd1
    go_wp2_with fail
    refine (hBlk.out _).mono ?_
    rintro ev w8 ⟨rfl, rfl⟩
    go_wp2_with fail
    refine (hN7.out _ hbB.out).mono ?_
    rintro ev w9 ⟨v2, rfl, hK9, hB9⟩
    have hNo9 := hidden (hNo.out w9 b (hLB.out.1.below hB9) (4 * l2.length) _ (128 - 4 * l2.length) (by omega) rfl)
    obtain ⟨av2, cv2, rfl, hf2⟩ := hK9.form
    obtain ⟨lb2, rfl, -, hlb2, hlc2⟩ := hf2 hne
    have hE9 := hidden (And.intro (hLB.out.2.trans (hB9.mono hLB.out.2.size)) (And.intro hlb2 hlc2))
    clear hK9 hB9 hf2 hlc2 hN7 hNo hLB hm17
    go_wp2_with fail
    refine (hNo9.out).mono ?_
    rintro ev w10 ⟨rfl, rfl⟩
    obtain ⟨e1, e2, e3, e4, e5, e6⟩ := hE6.out
    obtain ⟨g1, g2, g3⟩ := hE9.out
    have hK9 := e1.below g1
    have hN9 := e3.below g1
    have hR9 := e5.below g1
    have hlt4 : w4.heap.size < w6.heap.size := by omega
    have hB9 := e2.trans (g1.mono e2.size)
    have hF9 : w10.frozen? ⟨w4.heap.size, 2, none⟩ = false := (g1.frozen (p := ⟨w4.heap.size, 2, none⟩) hlt4).trans (e4 2)
    obtain ⟨v11, w11, hrun, hK11, hB11, hkp⟩ := kept_append hK9 ⟨lb2, 0, none⟩ l2.length cv2 l2 rfl (fun j hj => by
      rw [Go.WideShapes.add_plain, Nat.zero_add]
      exact g3 j hj) (by rw [<- hl9.out, List.length_take]; have := hdl.out; omega) (by have := hB9.size; have := g1.size; omega) 58
    rw [happ.out] at hK11
    have hwl := g1.size
    have hxb : w11.heap[w4.heap.size]? = w10.heap[w4.heap.size]? := hkp _ (by omega) (by intro e; have := e6 _ e.symm; omega)
    have hN11 : NdAt w11 w4.heap.size K S (.slice (some ⟨lb, 0, none⟩) 9 cv) := ⟨(World.cell?_of_block (a := ⟨w4.heap.size, 0, none⟩) hxb).trans hN9.c0, (World.cell?_of_block (a := ⟨w4.heap.size, 1, none⟩) hxb).trans hN9.c1, (World.cell?_of_block (a := ⟨w4.heap.size, 2, none⟩) hxb).trans hN9.c2⟩
    have hF11 : w11.frozen? ⟨w4.heap.size, 2, none⟩ = false := (World.frozen?_of_block (a := ⟨w4.heap.size, 2, none⟩) hxb).trans hF9
    have hR11 : RC w11 w.heap.size := ⟨⟨(hB11.cell (p := ⟨w.heap.size, 0, none⟩) (Nat.lt_succ_self _)).trans hR9.nd.c0, (hB11.cell (p := ⟨w.heap.size, 1, none⟩) (Nat.lt_succ_self _)).trans hR9.nd.c1, (hB11.cell (p := ⟨w.heap.size, 2, none⟩) (Nat.lt_succ_self _)).trans hR9.nd.c2⟩, fun j => (hB11.frozen (p := ⟨w.heap.size, j, none⟩) (Nat.lt_succ_self _)).trans (hR9.fz j)⟩
    have hB011 := hB9.trans (hB11.mono (Nat.le_succ _))
    obtain ⟨a11, cap11, rfl, hf11⟩ := hK11.form
    obtain ⟨b11, rfl, hb11, hlt11, hc11⟩ := hf11 (by intro e; rw [e] at hl; simp at hl)
    have hne11 : b11 ≠ w4.heap.size := by
      intro e
      have h1 := hc11 2 (by omega)
      rw [e, hN11.c2] at h1
      cases h1
    have hA12 : Apart [w4.heap.size] w11 (w11.setCell ⟨w4.heap.size, 2, none⟩ (.slice (some ⟨b11, 0, none⟩) ks.length cap11)) := (Apart.refl _ w11).setCell (p := ⟨w4.heap.size, 2, none⟩) (by simp) _
    have hK12 := hK11.keep2 hA12 (fun g hg => by
      have : b11 = g := by simpa [Value.ownBlock] using hg
      simp
      omega)
    have hR12 := hR11.keep hA12 (by simp; omega)
    have hN12 : NdAt (w11.setCell ⟨w4.heap.size, 2, none⟩ (.slice (some ⟨b11, 0, none⟩) ks.length cap11)) w4.heap.size K S (.slice (some ⟨b11, 0, none⟩) ks.length cap11) :=
      ⟨(World.cell?_setCell_other _ _ _ _ (by simp)).trans hN11.c0, (World.cell?_setCell_other _ _ _ _ (by simp)).trans hN11.c1, World.cell?_setCell_same' _ _ _ (by rw [hN11.c2]; rfl)⟩
    have hB12 : Below w.heap.size w (w11.setCell ⟨w4.heap.size, 2, none⟩ (.slice (some ⟨b11, 0, none⟩) ks.length cap11)) := hB011.setCell (p := ⟨w4.heap.size, 2, none⟩) (by show w.heap.size <= w4.heap.size; omega) _
    have hH12 := hidden (kH.out _ _ ks hB12 hK12.ints (Or.inr rfl))
    have n0 := hN9.c0
    have n1 := hN9.c1
    have n2 := hN9.c2
    have p2 := hN11.c2
    have hlt10 : w4.heap.size < w10.heap.size := by omega
    have q2 := hN12.c2
    have hE12 := hidden (And.intro hK12 (And.intro hN12 (And.intro hR12 hB12)))
    replace hrun := hidden hrun
    generalize hw12 : w11.setCell ⟨w4.heap.size, 2, none⟩ (.slice (some ⟨b11, 0, none⟩) ks.length cap11) = w12 at *
    clear e1 e2 e3 e4 e5 e6 g1 g2 g3 hK9 hN9 hR9 hB9 hK11 hB11 hkp hN11 hR11 hB011 hA12 hK12 hR12 hN12 hB12 hf11 hc11 hxb hNo9 kH
    generalize ks.length = KL at *
    go_wp2_with (at_builtin; refine wpList_append_eq _ _ 58 rfl _ _ _ w11 rfl rfl hrun.out rfl ?_)
    refine (hH12.out).mono ?_
    rintro ev w13 ⟨rfl, hB13⟩
    obtain ⟨e1, e2, e3, e4⟩ := hE12.out
    have hN13 := e2.below hB13
    have hR13 := e3.below hB13
    have m0 := hN13.c0
    have m1 := hN13.c1
    have m2 := hN13.c2
    have r0 := hR13.nd.c0
    have r1 := hR13.nd.c1
    have r2 := hR13.nd.c2
    have f0 := hR13.fz 0
    have f1 := hR13.fz 1
    have f2 := hR13.fz 2
    have hE13 := hidden (And.intro (e1.below hB13) (e4.trans (hB13.mono e4.size)))
    clear e1 e2 e3 e4 hN13 hR13 hB13 hE12 hH12 n0 n1 n2 p2 q2
    go_wp2
    (try simp only [Exit.inBlock, Exit.then])
    obtain ⟨q1, q2, q3⟩ := nd_end0 (K := K) (S := S) ⟨r0, r1, r2⟩ hE13.out.1 (Nat.lt_succ_self _) hE13.out.2 (Nat.le_refl _)
    exact bodyPost_ret (ret_node rfl rfl q1) rfl ⟨_, rfl, q2, q3⟩
def idxN (q : Nat) : Nat := if 8 <= q then q + 1 else q
theorem idxN_ne (q : Nat) : idxN q ≠ 8 := by unfold idxN; split <;> omega
theorem idxN_inj {p q : Nat} (h : idxN p = idxN q) : p = q := by unfold idxN at h; split at h <;> split at h <;> omega
theorem idxN_lt {q size : Nat} (hs : size <= 4000) (h : 128 * q < size) : (idxN q : Int) < blk size := by
  unfold idxN blk
  split <;> split <;> (try split) <;> (try split) <;> omega
abbrev Pc : Type := Int × Int × Int
def stepN (at_ n : Nat) : Nat := min (at_ % 128 + n) 128 - at_ % 128
def pcsL (ks : List Int) : Nat -> Nat -> Nat -> List Pc
  | 0, _, _ => []
  | f + 1, at_, n => if n = 0 then [] else (ks.getD (idxN (at_ / 128)) 0, ((at_ % 128 : Nat) : Int), ((min (at_ % 128 + n) 128 : Nat) : Int)) :: pcsL ks f (at_ + stepN at_ n) (n - stepN at_ n)
theorem stepN_pos {at_ n : Nat} (h : 0 < n) : 0 < stepN at_ n /\ stepN at_ n <= n /\ stepN at_ n <= 128 := by unfold stepN; omega
theorem pcsL_len (ks : List Int) : ∀ f at_ n, (pcsL ks f at_ n).length <= f
  | 0, _, _ => by simp [pcsL]
  | f + 1, at_, n => by
    unfold pcsL
    split
    · simp
    · have := pcsL_len ks f (at_ + stepN at_ n) (n - stepN at_ n)
      simp
      omega
def pcC (p : Pc) : List Value := [.int .i64 p.1, .int .i64 p.2.1, .int .i64 p.2.2]
structure PcAt (base : Nat) (w : World) (v : Value) (ps : List Pc) : Prop where
  row : w.ownsRow base 238 3 v ps.length (ps.flatMap pcC)
theorem PcAt.nil (base : Nat) (w : World) : PcAt base w (.slice none 0 0) [] := ⟨World.ownsRow_nil w base _ _⟩
theorem PcAt.keep {base : Nat} {w w' : World} {v : Value} {ps : List Pc} {bs : List Nat} (h : PcAt base w v ps) (ha : Apart bs w w') (hb : ∀ k ∈ bs, k < base) : PcAt base w' v ps := by
  refine ⟨h.row.1, ?_⟩
  rcases h.row.2 with h0 | ⟨g, cap, cur, hv, h1, hh, rest⟩
  · exact Or.inl h0
  · have hlt : g < w.heap.size := by
      rcases Nat.lt_or_ge g w.heap.size with h | h
      · exact h
      · rw [Array.getElem?_eq_none h] at hh; cases hh
    exact Or.inr ⟨g, cap, cur, hv, h1, (ha.block g hlt (fun hm => absurd (hb g hm) (by omega))).trans hh, rest⟩
theorem PcAt.below {base : Nat} {w w' : World} {v : Value} {ps : List Pc} (h : PcAt base w v ps) (hb : Below w.heap.size w w') : PcAt base w' v ps := h.keep (Apart.of_below (bs := []) hb) (by simp)
theorem PcAt.mono {base base' : Nat} {w : World} {v : Value} {ps : List Pc} (h : PcAt base w v ps) (hb : base' <= base) : PcAt base' w v ps := ⟨⟨h.row.1, by
  rcases h.row.2 with h2 | ⟨g', cap', cur, hv, h1, rest⟩
  · exact .inl h2
  · exact .inr ⟨g', cap', cur, hv, Nat.le_trans hb h1, rest⟩⟩⟩
theorem pcC_get (ps : List Pc) (k i : Nat) (hi : i < 3) (hk : k < ps.length) : (ps.flatMap pcC)[k * 3 + i]? = (pcC (ps.getD k (0, 0, 0)))[i]? := by
  induction ps generalizing k with
  | nil => simp at hk
  | cons p r ih =>
    rw [List.flatMap_cons]
    cases k with
    | zero => rw [Nat.zero_mul, Nat.zero_add, List.getElem?_append_left (by simp [pcC]; exact hi)]; rfl
    | succ k =>
      rw [List.getElem?_append_right (by simp [pcC]; omega), show (k + 1) * 3 + i - (pcC p).length = k * 3 + i by simp [pcC]; omega, ih k (by simpa using hk)]
      rfl
theorem PcAt.form {base : Nat} {w : World} {v : Value} {ps : List Pc} (h : PcAt base w v ps) : ∃ a cap, v = .slice a ps.length cap /\ (ps ≠ [] -> ∃ b, a = some ⟨b, 0, none⟩ /\ b < w.heap.size /\ ∀ k, k < ps.length -> w.cell? ⟨b, k * 3, none⟩ = some (.int .i64 (ps.getD k (0, 0, 0)).1) /\ w.cell? ⟨b, k * 3 + 1, none⟩ = some (.int .i64 (ps.getD k (0, 0, 0)).2.1) /\ w.cell? ⟨b, k * 3 + 2, none⟩ = some (.int .i64 (ps.getD k (0, 0, 0)).2.2)) := by
  rcases h.row.2 with ⟨rfl, h0⟩ | ⟨g', cap', cur, rfl, h1, hh, h2, h3, h4, h5⟩
  · exact ⟨none, 0, by rw [h0], fun e => absurd (List.length_eq_zero_iff.1 h0) e⟩
  · refine ⟨_, cap', rfl, fun _ => ⟨g', rfl, ?_, fun k hk => ?_⟩⟩
    · rcases Nat.lt_or_ge g' w.heap.size with h | h
      · exact h
      · rw [Array.getElem?_eq_none h] at hh; cases hh
    · have e0 := h.row.cellAt (k * 3) (by omega)
      have e1 := h.row.cellAt (k * 3 + 1) (by omega)
      have e2 := h.row.cellAt (k * 3 + 2) (by omega)
      rw [pcC_get ps k 1 (by omega) hk] at e1
      rw [pcC_get ps k 2 (by omega) hk] at e2
      rw [show k * 3 = k * 3 + 0 from rfl, pcC_get ps k 0 (by omega) hk] at e0
      exact ⟨e0, e1, e2⟩
theorem Tryz.infoPiece : (Tryz.prog.info? 238).map (fun i => (i.zero, i.size, i.bytes)) = some (some (.agg #[.int .i64 0, .int .i64 0, .int .i64 0]), 3, 24) := by kernel_rfl
theorem PcAt.push {base : Nat} {w : World} {v : Value} {ps : List Pc} (h : PcAt base w v ps) (hn : ps.length + 1 <= 10000) (hbase : base <= w.heap.size) (p : Pc) (ty : TypeId) :
    ∃ v' w', (Builtin.append_ #[235, 235] ty #[v, .slice (some ⟨w.heap.size, 0, none⟩) 1 1]).run Tryz.prog (w.alloc (.cells #[.int .i64 p.1, .int .i64 p.2.1, .int .i64 p.2.2] 238)) = .ok v' w' /\ PcAt base w' v' (ps ++ [p]) /\ Below base w w' := by
  have hB : Below w.heap.size w (w.alloc (.cells #[.int .i64 p.1, .int .i64 p.2.1, .int .i64 p.2.2] 238)) := (Below.refl _ _).alloc (Nat.le_refl _) _
  have h' := h.below hB
  obtain ⟨i0, hi, hz0, hz1, hz2⟩ := info_parts3 Tryz.infoPiece
  obtain ⟨v', w', hrun, hown, hgrow, -⟩ := run_append_own (P := Tryz.prog) (w.alloc (.cells #[.int .i64 p.1, .int .i64 p.2.1, .int .i64 p.2.2] 238)) base 235 ty 238 i0 (.agg #[.int .i64 0, .int .i64 0, .int .i64 0]) 3 24 Tryz.underlying235 hi hz0 hz1 hz2 (by simp [Value.cells]) (by decide)
    v ps.length _ h'.row ⟨w.heap.size, 0, none⟩ 1 1 (pcC p) (by simp [pcC]) (fun j u hu => by
      rw [Go.WideShapes.add_plain, Nat.zero_add]
      match j, hu with
      | 0, hu => simpa [pcC] using hu
      | 1, hu => simpa [pcC] using hu
      | 2, hu => simpa [pcC] using hu
      | j + 3, hu => simp [pcC] at hu) (by intro u hu; simp [pcC] at hu; rcases hu with rfl | rfl | rfl <;> rfl) (by unfold maxLen; omega) (by omega) (Nat.le_trans hbase hB.size)
  refine ⟨v', w', hrun, ⟨?_⟩, (hB.mono hbase).trans ((Below.refl base _).grown hgrow (Nat.le_trans hbase hB.size) (fun k hk => (h'.row.lt k hk).1))⟩
  rw [List.length_append, List.flatMap_append]
  simpa using hown
theorem pieces_none {w : World} {v : Value} (K S at_ n : Int) (hn : n <= 0) :
    Calls Tryz.prog 186 #[nodeV K S v, .int .i64 at_, .int .i64 n] w fun e w' => e = .returned (.slice none 0 0) /\ Below w.heap.size w w' := by
  have hn' : ¬ (0 < n) := by omega
  go_enter Tryz.func186, Tryz.ntmps186
  go_wp2_with fail
  go_loopg [1, 2, 7] 1 (fun _ p q l wr => p = .int .i64 at_ /\ q = .int .i64 n /\ l = .slice none 0 0 /\ Hid (Below w.heap.size w wr))
  case atStart => exact ⟨rfl, rfl, rfl, hidden ((Below.refl _ _).alloc (Nat.le_refl _) _)⟩
  case round =>
    obtain ⟨rfl, rfl, rfl, hB⟩ := hrel
    go_wp2
    go_ret
    exact ⟨rfl, hB.out⟩
theorem pieces_calls {w : World} {v : Value} {ks : List Int} (hv : IntsAt w v ks) (K S : Int) (at_ n : Nat) (hat : at_ <= 100000) (hn : n <= 10000) (hfit : ∀ q, at_ < 128 * (q + 1) -> 128 * q < at_ + n -> idxN q < ks.length) :
    Calls Tryz.prog 186 #[nodeV K S v, .int .i64 at_, .int .i64 n] w fun e w' => ∃ pv, e = .returned pv /\ PcAt w.heap.size w' pv (pcsL ks n at_ n) /\ Below w.heap.size w w' := by
  obtain ⟨a, cap, rfl, hcap, -, -, hc⟩ := hv
  have kc := hidden (fun (wx : World) (hx : Below w.heap.size w wx) (k : Nat) (hk : k < ks.length) => show ∃ b off, a = some ⟨b, off, none⟩ /\ wx.cell? ⟨b, off + k, none⟩ = some (.int .i64 (ks.getD k 0)) from by
    obtain ⟨b, off, ha, hb, hcell⟩ := hc (by intro e; rw [e] at hk; simp at hk)
    exact ⟨b, off, ha, (hx.cell (p := ⟨b, off + k, none⟩) hb).trans (hcell k hk)⟩)
  have hBa : Below w.heap.size w (w.alloc (.cells #[.int .i64 K, .int .i64 S, .slice a ks.length cap] 151)) := (Below.refl _ _).alloc (Nat.le_refl _) _
  have hN : NdAt (w.alloc (.cells #[.int .i64 K, .int .i64 S, .slice a ks.length cap] 151)) w.heap.size K S (.slice a ks.length cap) := ⟨by simp, by simp, by simp⟩
  have hsa : (w.alloc (.cells #[.int .i64 K, .int .i64 S, .slice a ks.length cap] 151)).heap.size = w.heap.size + 1 := by simp
  generalize hwa : w.alloc (.cells #[.int .i64 K, .int .i64 S, .slice a ks.length cap] 151) = wa at *
  clear hc
  replace hfit := hidden hfit
  obtain ⟨P, hP⟩ : ∃ P, pcsL ks n at_ n = P := ⟨_, rfl⟩
  rw [hP]
  have hPl : P.length <= 10000 := by rw [<- hP]; exact Nat.le_trans (pcsL_len _ _ _ _) hn
  replace hP := hidden hP
  replace hN := hidden hN
  replace hBa := hidden hBa
  go_enter Tryz.func186, Tryz.ntmps186
  go_wp2_with fail
  clear hwa
  go_loopg [1, 2, 7] n (fun gk p q l wr => ∃ (A N : Nat) (ps : List Pc), p = .int .i64 A /\ q = .int .i64 N /\ N <= gk /\ gk <= n /\ A + N = at_ + n /\ at_ <= A /\ Hid (ps ++ pcsL ks gk A N = P) /\ Hid (PcAt (w.heap.size + 1) wr l ps /\ Below wa.heap.size wa wr))
  case atStart => exact ⟨at_, n, [], rfl, rfl, Nat.le_refl _, Nat.le_refl _, rfl, Nat.le_refl _, hP, hidden ⟨PcAt.nil _ _, Below.refl _ _⟩⟩
  case round =>
    obtain ⟨A, N, ps, rfl, rfl, hg1, hg2, hs, hA, hps, hI⟩ := hrel
    obtain ⟨pa, pcap, rfl, -⟩ := hI.out.1.form
    have hBw := hBa.out.trans (hI.out.2.mono hBa.out.size)
    by_cases h0 : 0 < N
    · obtain ⟨f, rfl⟩ : ∃ f, gk = f + 1 := ⟨gk - 1, by omega⟩
      have hst := stepN_pos (at_ := A) h0
      have hidx := hfit.out (A / 128) (by omega) (by omega)
      obtain ⟨lb, lo, rfl, hcl⟩ := kc.out _ hBw (idxN (A / 128)) hidx
      have hps' : Hid ((ps ++ [(ks.getD (idxN (A / 128)) 0, ((A % 128 : Nat) : Int), ((min (A % 128 + N) 128 : Nat) : Int))]) ++ pcsL ks f (A + stepN A N) (N - stepN A N) = P) := hidden (by
        have h := hps.out
        rw [pcsL, if_neg (by omega)] at h
        rw [List.append_assoc]
        exact h)
      have hn2 := (hN.out.below hI.out.2).c2
      have hlt2 : w.heap.size < wr.heap.size := by have := hI.out.2.size; omega
      have hpl : ps.length + 1 <= 10000 := by
        have := congrArg List.length hps'.out
        simp at this
        omega
      obtain ⟨v5, w5, hrun, hK5, hB5⟩ := hI.out.1.push hpl (by have := hI.out.2.size; omega) (ks.getD (idxN (A / 128)) 0, ((A % 128 : Nat) : Int), ((min (A % 128 + N) 128 : Nat) : Int)) 235
      have hB5' : Below wa.heap.size wa w5 := hI.out.2.trans (hB5.mono (by omega))
      have hE := hidden (And.intro hK5 hB5')
      have t1 : (A : Int).tdiv 128 = ((A / 128 : Nat) : Int) := by rw [Int.tdiv_eq_ediv_of_nonneg (by omega)]; omega
      have t2 : (A : Int).tmod 128 = ((A % 128 : Nat) : Int) := by rw [Int.tmod_eq_emod_of_nonneg (by omega)]; omega
      have t3 : min (((A % 128 : Nat) : Int) + (N : Int)) 128 = ((min (A % 128 + N) 128 : Nat) : Int) := by omega
      have t4 : ((min (A % 128 + N) 128 : Nat) : Int) - ((A % 128 : Nat) : Int) = ((stepN A N : Nat) : Int) := by unfold stepN; omega
      have t5 : Hid ((A : Int) + ((stepN A N : Nat) : Int) = ((A + stepN A N : Nat) : Int)) := hidden (by omega)
      have t6 : Hid ((N : Int) - ((stepN A N : Nat) : Int) = ((N - stepN A N : Nat) : Int)) := hidden (by omega)
      have hAb : A <= 200000 := by omega
      have hr7 : A % 128 < 128 := by omega
      have hm8 : min (A % 128 + N) 128 <= 128 /\ A % 128 <= min (A % 128 + N) 128 := by omega
      have hge : 8 <= A / 128 /\ idxN (A / 128) = A / 128 + 1 \/ A / 128 < 8 /\ idxN (A / 128) = A / 128 := by unfold idxN; split <;> omega
      have hq : A / 128 <= 10000 := by omega
      have hfin : Hid (A + stepN A N + (N - stepN A N) = at_ + n /\ at_ <= A + stepN A N /\ N - stepN A N <= f /\ f <= n) := hidden (by omega)
      generalize stepN A N = st at *
      generalize min (A % 128 + N) 128 = tt at *
      generalize A % 128 = r at *
      generalize A / 128 = q at *
      generalize idxN q = ix at *
      generalize ks.getD ix 0 = z at *
      replace hrun := hidden hrun
      have hpl2 := hI.out.1.form
      clear hI hps hK5 hB5 hB5' kc hpl2 hBw
      generalize ps.length = PL at *
      have hN1 : N <= 10000 := by omega
      rcases hge with ⟨hq8, rfl⟩ | ⟨hq8, rfl⟩
      · go_wp2_with (at_builtin; refine wpList_append_eq _ _ 235 rfl _ _ v5 w5 rfl rfl hrun.out rfl ?_)
        go_roundg f
        case measure => omega
        case rel => exact ⟨A + st, N - st, _, by rw [<- t5.out], by rw [<- t6.out], hfin.out.2.2.1, hfin.out.2.2.2, hfin.out.1, hfin.out.2.1, hps', hE⟩
      · go_wp2_with (at_builtin; refine wpList_append_eq _ _ 235 rfl _ _ v5 w5 rfl rfl hrun.out rfl ?_)
        go_roundg f
        case measure => omega
        case rel => exact ⟨A + st, N - st, _, by rw [<- t5.out], by rw [<- t6.out], hfin.out.2.2.1, hfin.out.2.2.2, hfin.out.1, hfin.out.2.1, hps', hE⟩
    · have hN0 : N = 0 := by omega
      subst hN0
      have hp : ps = P := by
        have h := hps.out
        cases gk with
        | zero => simpa [pcsL] using h
        | succ f => simpa [pcsL] using h
      subst hp
      generalize ps.length = PL at *
      go_wp2
      go_ret
      exact ⟨_, rfl, hI.out.1.mono (by omega), hBw⟩
def byteF (F : Nat -> List Int) (ks : List Int) (j : Nat) : Int := (F (ks.getD (idxN (j / 128)) 0).toNat).getD (j % 128) 0
def pcB (F : Nat -> List Int) (p : Pc) : List Int := ((F p.1.toNat).take p.2.2.toNat).drop p.2.1.toNat
def bytesF (F : Nat -> List Int) (ks : List Int) (at_ n : Nat) : List Int := (List.range n).map fun i => byteF F ks (at_ + i)
theorem bytesF_len (F : Nat -> List Int) (ks : List Int) (at_ n : Nat) : (bytesF F ks at_ n).length = n := by simp [bytesF]
theorem bytesF_split (F : Nat -> List Int) (ks : List Int) (at_ a b : Nat) : bytesF F ks at_ (a + b) = bytesF F ks at_ a ++ bytesF F ks (at_ + a) b := by
  unfold bytesF
  rw [List.range_add, List.map_append, List.map_map]
  congr 1
  apply List.map_congr_left
  intro i _
  simp [Nat.add_assoc]
theorem OwnV.mono {base base' : Nat} {w : World} {v : Value} {zs : List Int} (h : OwnV base w v zs) (hb : base' <= base) : OwnV base' w v zs := ⟨⟨h.row.1, by
  rcases h.row.2 with h2 | ⟨g', cap', cur, hv, h1, rest⟩
  · exact .inl h2
  · exact .inr ⟨g', cap', cur, hv, Nat.le_trans hb h1, rest⟩⟩, h.range⟩
theorem get_of_len (R : List Int) (h : R.length = 128) (k : Nat) (hk : k < 128) : R[k]? = some (R.getD k 0) := by
  rw [List.getD_eq_getElem?_getD, List.getElem?_eq_getElem (by omega)]
  rfl
theorem pcB_eq (F : Nat -> List Int) (ks : List Int) (hF : ∀ no, (F no).length = 128) (at_ n : Nat) (hn : 0 < n) :
    pcB F (ks.getD (idxN (at_ / 128)) 0, ((at_ % 128 : Nat) : Int), ((min (at_ % 128 + n) 128 : Nat) : Int)) = bytesF F ks at_ (stepN at_ n) := by
  have hst : stepN at_ n = min (at_ % 128 + n) 128 - at_ % 128 := rfl
  have hlen := hF (ks.getD (idxN (at_ / 128)) 0).toNat
  apply List.ext_getElem?
  intro i
  unfold pcB bytesF byteF
  rw [List.getElem?_map, List.getElem?_drop, List.getElem?_take]
  simp only [Int.toNat_natCast]
  by_cases h2 : i < stepN at_ n
  · have e1 : (at_ + i) / 128 = at_ / 128 := by omega
    have e2 : (at_ + i) % 128 = at_ % 128 + i := by omega
    rw [List.getElem?_range h2, if_pos (by omega), Option.map_some, e1, e2, get_of_len _ hlen _ (by omega)]
  · rw [List.getElem?_eq_none (l := List.range (stepN at_ n)) (by rw [List.length_range]; omega), if_neg (by omega)]
    rfl
theorem pcs_bytes (F : Nat -> List Int) (ks : List Int) (hF : ∀ no, (F no).length = 128) : ∀ f at_ n, n <= f -> (pcsL ks f at_ n).flatMap (pcB F) = bytesF F ks at_ n
  | 0, at_, n, h => by
    obtain rfl : n = 0 := by omega
    rfl
  | f + 1, at_, n, h => by
    unfold pcsL
    by_cases h0 : n = 0
    · rw [if_pos h0, h0]; rfl
    · have hs := stepN_pos (at_ := at_) (n := n) (by omega)
      rw [if_neg h0, List.flatMap_cons, pcs_bytes F ks hF f _ _ (by omega), pcB_eq F ks hF at_ n (by omega), <- bytesF_split]
      congr 1
      omega
theorem pcsL_mem (ks : List Int) : ∀ f at_ n p, p ∈ pcsL ks f at_ n -> ∃ q, at_ < 128 * (q + 1) /\ 128 * q < at_ + n /\ p.1 = ks.getD (idxN q) 0 /\ 0 <= p.2.1 /\ p.2.1 < p.2.2 /\ p.2.2 <= 128
  | 0, _, _, p, h => by simp [pcsL] at h
  | f + 1, at_, n, p, h => by
    unfold pcsL at h
    by_cases h0 : n = 0
    · rw [if_pos h0] at h; cases h
    · have hs := stepN_pos (at_ := at_) (n := n) (by omega)
      rw [if_neg h0] at h
      rcases List.mem_cons.1 h with rfl | h
      · exact ⟨at_ / 128, by omega, by omega, rfl, by simp; omega, by simp; omega, by simp; omega⟩
      · obtain ⟨q, h1, h2, h3⟩ := pcsL_mem ks f _ _ p h
        refine ⟨q, ?_, by omega, h3⟩
        have : stepN at_ n = min (at_ % 128 + n) 128 - at_ % 128 := rfl
        omega
theorem iread_calls {w : World} {tb cb : Nat} {id K : Int} {at_ n size : Nat} {ks : List Int} {F : Nat -> List Int} (hat : at_ <= 100000) (hn : (n : Int) <= 9223372036854775807) (hsz : size <= 4000) (hlen : (ks.length : Int) = blk size) (hF : ∀ no, Row (F no)) (c0 : w.cell? ⟨tb, 0, none⟩ = some (ptr cb))
    (kL : ∀ wx, Below w.heap.size w wx -> Calls Tryz.prog 174 #[ptr tb, .int .i64 id] wx fun e w' => ∃ v, e = .returned (.tuple #[nodeV K size v, .nilIface]) /\ Kept wx.heap.size w' v ks /\ Below wx.heap.size wx w')
    (kR : ∀ wx z, Below w.heap.size w wx -> z ∈ ks -> Calls Tryz.prog 187 #[ptr cb, .int .i64 z] wx fun e w' => ∃ b, e = .returned (.tuple #[.slice (some ⟨b, 0, none⟩) 128 128, .nilIface]) /\ Lie w' b (F z.toNat) /\ wx.heap.size <= b /\ Below wx.heap.size wx w') :
    Calls Tryz.prog 138 #[ptr tb, .int .i64 id, .int .i64 at_, .int .i64 n] w fun e w' => ∃ v, e = .returned (.tuple #[v, .nilIface]) /\ OwnV w.heap.size w' v (bytesF F ks at_ (min n (size - at_))) /\ Below w.heap.size w w' := by
  have htb : tb < w.heap.size := lt_of_cell (a := ⟨tb, 0, none⟩) c0
  have kc0 := hidden (fun (wx : World) (hx : Below w.heap.size w wx) => (hx.cell (p := ⟨tb, 0, none⟩) htb).trans c0)
  have kP := hidden (fun (wx : World) (v : Value) (hv : IntsAt wx v ks) (m : Int) (hm : m = min (n : Int) ((size : Int) - at_)) => show Calls Tryz.prog 186 #[nodeV K size v, .int .i64 at_, .int .i64 m] wx fun e w' => ∃ pv ps, e = .returned pv /\ PcAt wx.heap.size w' pv ps /\ ps.length <= 10000 /\ ps.flatMap (pcB F) = bytesF F ks at_ (min n (size - at_)) /\ (∀ p ∈ ps, p.1 ∈ ks /\ 0 <= p.2.1 /\ p.2.1 < p.2.2 /\ p.2.2 <= 128) /\ Below wx.heap.size wx w' from by
    by_cases h0 : m <= 0
    · refine (pieces_none K size at_ m h0).mono ?_
      rintro e w' ⟨rfl, hB⟩
      refine ⟨_, [], rfl, PcAt.nil _ _, by simp, ?_, by simp, hB⟩
      rw [show min n (size - at_) = 0 by omega]
      rfl
    · have hm' : m = ((min n (size - at_) : Nat) : Int) := by omega
      rw [hm']
      have hfit : ∀ q, at_ < 128 * (q + 1) -> 128 * q < at_ + min n (size - at_) -> idxN q < ks.length := fun q h1 h2 => by
        have := idxN_lt hsz (q := q) (by omega)
        omega
      refine (pieces_calls hv K size at_ (min n (size - at_)) hat (by omega) hfit).mono ?_
      rintro e w' ⟨pv, rfl, hP, hB⟩
      refine ⟨_, _, rfl, hP, Nat.le_trans (pcsL_len _ _ _ _) (by omega), pcs_bytes F ks (fun no => (hF no).1) _ _ _ (Nat.le_refl _), fun p hp => ?_, hB⟩
      obtain ⟨q, h1, h2, h3, h4⟩ := pcsL_mem ks _ _ _ p hp
      refine ⟨?_, h4⟩
      have hlt := hfit q h1 h2
      rw [h3, List.getD_eq_getElem?_getD, List.getElem?_eq_getElem hlt]
      exact List.getElem_mem _)
  replace kL := hidden (kL w (Below.refl _ _))
  replace kR := hidden kR
  replace hF := hidden hF
  have hOl : (bytesF F ks at_ (min n (size - at_))).length <= 4000 := by rw [bytesF_len]; omega
  generalize bytesF F ks at_ (min n (size - at_)) = OUT at *
  have hna : ¬ ((at_ : Int) < 0) := by omega
  have hnn : ¬ ((n : Int) < 0) := by omega
  have hz1 : (size : Int) <= 4000 /\ 0 <= (size : Int) := by omega
  have ha1 : (at_ : Int) <= 100000 /\ 0 <= (at_ : Int) := by omega
  have hn1 : 0 <= (n : Int) := by omega
  generalize (size : Int) = S at *
  generalize (at_ : Int) = AT at *
  generalize (n : Int) = NN at *
  go_enter Tryz.func138, Tryz.ntmps138
  go_wp2_with fail
  refine (kL.out).mono ?_
  rintro ev w4 ⟨v, rfl, hKp, hB4⟩
  have hB5 : Below w4.heap.size w4 (w4.alloc (.cells #[.int .i64 K, .int .i64 S, v] 151)) := (Below.refl _ _).alloc (Nat.le_refl _) _
  have hN5 : NdAt (w4.alloc (.cells #[.int .i64 K, .int .i64 S, v] 151)) w4.heap.size K S v := ⟨by simp, by simp, by simp⟩
  have hP5 := hidden (kP.out _ v (hKp.below hB5).ints)
  have hB05 := hidden (hB4.trans (hB5.mono hB4.size))
  obtain ⟨av, cv, rfl, -⟩ := hKp.form
  generalize hw5 : w4.alloc (.cells #[.int .i64 K, .int .i64 S, .slice av ks.length cv] 151) = w5 at *
  have n1 := hN5.c1
  have n0 := hN5.c0
  have n2 := hN5.c2
  clear hKp hB4 kL kP hN5 hB5
  generalize ks.length = KL at *
  go_wp2_with fail
  refine (hP5.out _ rfl).mono ?_
  rintro ev w6 ⟨pv, ps, rfl, hPc, hpl, hps, hmem, hB6⟩
  obtain ⟨pa, pcap, rfl, hpf⟩ := hPc.form
  have hpf' := hidden (fun (wx : World) (hx : Below w6.heap.size w6 wx) (j : Nat) (hj : j < ps.length) => show ∃ b, pa = some ⟨b, 0, none⟩ /\ b < wx.heap.size /\ wx.cell? ⟨b, j * 3, none⟩ = some (.int .i64 (ps.getD j (0, 0, 0)).1) /\ wx.cell? ⟨b, j * 3 + 1, none⟩ = some (.int .i64 (ps.getD j (0, 0, 0)).2.1) /\ wx.cell? ⟨b, j * 3 + 2, none⟩ = some (.int .i64 (ps.getD j (0, 0, 0)).2.2) from by
    obtain ⟨b, h1, h2, h3⟩ := hpf (by intro e; rw [e] at hj; simp at hj)
    obtain ⟨e1, e2, e3⟩ := h3 j hj
    exact ⟨b, h1, Nat.lt_of_lt_of_le h2 hx.size, (hx.cell (p := ⟨b, j * 3, none⟩) h2).trans e1, (hx.cell (p := ⟨b, j * 3 + 1, none⟩) h2).trans e2, (hx.cell (p := ⟨b, j * 3 + 2, none⟩) h2).trans e3⟩)
  have hB06 := hB05.out.trans (hB6.mono hB05.out.size)
  replace hB06 := hidden hB06
  replace hmem := hidden hmem
  replace hps := hidden hps
  have hone : Hid (∀ j, j < ps.length -> ps.take (j + 1) = ps.take j ++ [ps.getD j (0, 0, 0)]) := hidden (fun j hj => by
    rw [List.take_add_one, List.getElem?_eq_getElem hj]
    simp [List.getD, hj])
  have hgm : Hid (∀ j, j < ps.length -> ps.getD j (0, 0, 0) ∈ ps) := hidden (fun j hj => by rw [List.getD_eq_getElem?_getD, List.getElem?_eq_getElem hj]; exact List.getElem_mem _)
  have hfull : Hid (ps.take ps.length = ps) := hidden List.take_length
  clear hPc hpf hB6 hP5 n0 n1 n2 hw5
  generalize ps.length = PL at *
  go_wp2_with fail
  go_loopg [12, 43] (PL + 1) (fun gk l q wr => ∃ j : Nat, j <= PL /\ gk = PL + 1 - j /\ q = .int .i64 j /\ Hid (OwnV w6.heap.size wr l ((ps.take j).flatMap (pcB F)) /\ Below w6.heap.size w6 wr))
  case atStart => exact ⟨0, by omega, rfl, rfl, hidden ⟨OwnV.nil _ _, Below.refl _ _⟩⟩
  case round =>
    obtain ⟨j, hj, hgk, rfl, hI⟩ := hrel
    replace hgk := hidden hgk
    by_cases hlt : j < PL
    · obtain ⟨pb, rfl, hpb, e1, e2, e3⟩ := hpf'.out _ hI.out.2 j hlt
      obtain ⟨hm1, hm2, hm3, hm4⟩ := hmem.out _ (hgm.out j hlt)
      have hon := hidden (hone.out j hlt)
      generalize hpp : ps.getD j (0, 0, 0) = p at *
      obtain ⟨z, fr, tt⟩ := p
      have hzs := hF.out z.toNat
      have hR := hidden (fun (wx : World) (hx : Below w.heap.size w wx) => kR.out wx z hx hm1)
      have hBw := hB06.out.trans (hI.out.2.mono hB06.out.size)
      have hwlt := hBw.size
      simp only at e1 e2 e3 hm2 hm3 hm4
      have hB7 : Below wr.heap.size wr (wr.alloc (.cells #[.int .i64 z, .int .i64 fr, .int .i64 tt] 238)) := (Below.refl _ _).alloc (Nat.le_refl _) _
      have d0 : (wr.alloc (.cells #[.int .i64 z, .int .i64 fr, .int .i64 tt] 238)).cell? ⟨wr.heap.size, 0, none⟩ = some (.int .i64 z) := by simp
      have d1 : (wr.alloc (.cells #[.int .i64 z, .int .i64 fr, .int .i64 tt] 238)).cell? ⟨wr.heap.size, 1, none⟩ = some (.int .i64 fr) := by simp
      have d2 : (wr.alloc (.cells #[.int .i64 z, .int .i64 fr, .int .i64 tt] 238)).cell? ⟨wr.heap.size, 2, none⟩ = some (.int .i64 tt) := by simp
      have hs7 : (wr.alloc (.cells #[.int .i64 z, .int .i64 fr, .int .i64 tt] 238)).heap.size = wr.heap.size + 1 := by simp
      have hB07 := hBw.trans (hB7.mono hwlt)
      have c07 := kc0.out _ hB07
      obtain ⟨lv, hlv⟩ : ∃ lv, lv = (ps.take j).flatMap (pcB F) := ⟨_, rfl⟩
      rw [<- hlv] at hI
      have hcut0 : Hid (lv.length + (pcB F (z, fr, tt)).length <= 4000) := hidden (by
        have h1 := congrArg List.length hps.out
        rw [<- List.take_append_drop (j + 1) ps, hon.out, List.flatMap_append, List.flatMap_append, <- hlv, List.length_append, List.length_append] at h1
        simp at h1
        omega)
      have hV7 := hI.out.1.below hB7
      have hI67 := hI.out.2.trans (hB7.mono hI.out.2.size)
      generalize hw7 : wr.alloc (.cells #[.int .i64 z, .int .i64 fr, .int .i64 tt] 238) = w7 at *
      have htb7 : tb < w7.heap.size := lt_of_cell (a := ⟨tb, 0, none⟩) c07
      have hBd := hidden (hB07.trans ((below_drew1 w7).mono hB07.size))
      have hBd1 := hidden (below_drew1 w7)
      have hE7 := hidden (And.intro hV7 hI67)
      replace hB07 := hidden hB07
      replace hlv := hidden hlv
      replace hpp := hidden hpp
      clear hV7 hI67 hI hBw hB7 hm1 hpf' hmem hgm hone hfull
      go_upto_region 10 with fail
      clear e1 e2 e3 hw7
      go_cut [15, 16] (fun p q wx => ∃ b, p = .slice (some ⟨b, 0, none⟩) 128 128 /\ q = .nilIface /\ Lie wx b (F z.toNat) /\ Below w7.heap.size w7 wx)
      case first =>
        go_region_with (go_at_call 187; refine (hR.out _ hBd.out).mono ?_; rintro ev w8 ⟨b, rfl, hL, hb, hB⟩; have hE8 := hidden (And.intro hL (hBd1.out.trans (hB.mono hBd1.out.size))); clear hL hB hb)
        all_goals (go_wp2; go_meet; case rel => exact ⟨_, rfl, rfl, hE8.out⟩)
      case rest =>
        rename World => w8
        obtain ⟨b, rfl, rfl, hL8, hB8⟩ := hcut
        have d18 := (hB8.cell (p := ⟨wr.heap.size, 1, none⟩) (by show wr.heap.size < _; omega)).trans d1
        have d28 := (hB8.cell (p := ⟨wr.heap.size, 2, none⟩) (by show wr.heap.size < _; omega)).trans d2
        have hV8 := hE7.out.1.below hB8
        have hys : BytesAt w8 (.slice (some ⟨b, fr.toNat, none⟩) (tt.toNat - fr.toNat) (128 - fr.toNat)) (pcB F (z, fr, tt)) := by
          have hl : (pcB F (z, fr, tt)).length = (tt.toNat - fr.toNat) := by unfold pcB; simp [hzs.1]; omega
          refine ⟨_, _, by rw [hl], fun y hy => hzs.2 y (List.mem_of_mem_take (List.mem_of_mem_drop hy)), by rw [hl]; unfold maxLen; omega, fun e => (by cases e), fun _ => ⟨b, fr.toNat, rfl, hL8.lt, fun k hk => ?_⟩⟩
          rw [hl] at hk
          rw [hL8.cell (fr.toNat + k) (by omega)]
          unfold pcB
          simp only [List.getD_eq_getElem?_getD, List.getElem?_drop, List.getElem?_take]
          rw [if_pos (by omega)]
        have hyl : (pcB F (z, fr, tt)).length = (tt.toNat - fr.toNat) := by unfold pcB; simp [hzs.1]; omega
        obtain ⟨v9, w9, hrun, hV9, hB9⟩ := ownV_append hV8 _ _ hys (by intro e; rw [e] at hyl; simp at hyl; omega) (by have := hcut0.out; omega) (by have := hE7.out.2.size; have := hB8.size; omega) 38
        have hE9 := hidden (And.intro hV9 ((hE7.out.2.trans (hB8.mono hE7.out.2.size)).trans hB9))
        replace hrun := hidden hrun
        have hne : fr < tt := hm3
        clear hV9 hV8 hys hL8 hB8 hB9 hE7 hR kR hBd hBd1 c07 d0 d1 d2
        go_wp2_with (at_builtin; refine wpList_append_eq _ _ 38 rfl _ _ v9 w9 rfl rfl hrun.out rfl ?_)
        go_roundg (PL + 1 - (j + 1))
        case measure => rw [hgk.out]; omega
        case rel => exact ⟨j + 1, by omega, rfl, by go_num, hidden ⟨by rw [hon.out, List.flatMap_append, <- hlv.out]; simpa using hE9.out.1, hE9.out.2⟩⟩
    · obtain rfl : j = PL := by omega
      rw [hfull.out, hps.out] at hI
      have hE := hidden (And.intro (hI.out.1.mono hB06.out.size) (hB06.out.trans (hI.out.2.mono hB06.out.size)))
      clear hI
      go_wp2
      go_ret2
      exact ⟨_, rfl, hE.out⟩
end Go.Proofs.YtpofmiecjkghgaaGreatDoor
