/- Lists of nodes in memory, and lists of such lists. -/
import Derived.Test.YtpofmiecjkghgaaGreatDoorGWap
namespace Go.Proofs.YtpofmiecjkghgaaGreatDoor
open Go.RowKit Go.Extern.Stop Go.Stop Go.Extern Go.Maps Go.Sort Go.Shelf
set_option maxRecDepth 100000
set_option maxHeartbeats 12000000
def ndC (K : Nat -> Nat) : List Nat -> List Value
  | [] => []
  | r :: l => .int .i64 (r : Nat) :: .int .i64 (K r : Nat) :: ndC K l
section
variable {K : Nat -> Nat}
theorem ndC_len : ∀ L, (ndC K L).length = L.length * 2
  | [] => rfl
  | _ :: r => by simp [ndC, ndC_len r]; omega
theorem ndC_append : ∀ a b, ndC K (a ++ b) = ndC K a ++ ndC K b
  | [], _ => rfl
  | p :: r, b => by simp [ndC, ndC_append r b]
theorem ndC_get : ∀ (L : List Nat) (k r : Nat), L[k]? = some r -> (ndC K L)[k * 2]? = some (.int .i64 (r : Nat)) /\ (ndC K L)[k * 2 + 1]? = some (.int .i64 (K r : Nat))
  | [], k, p, h => by simp at h
  | q :: r, 0, p, h => by simp at h; subst h; exact ⟨rfl, rfl⟩
  | q :: r, k + 1, p, h => by
    have := ndC_get r k p (by simpa using h)
    rw [show (k + 1) * 2 = k * 2 + 2 by omega]
    simpa [ndC] using this
theorem ndC_one : ∀ (L : List Nat), ∀ u ∈ ndC K L, u.oneCell' = true
  | [], u, hu => by cases hu
  | q :: r, u, hu => by
    rcases List.mem_cons.1 hu with rfl | hu
    · rfl
    · rcases List.mem_cons.1 hu with rfl | hu
      · rfl
      · exact ndC_one r u hu
theorem ndC_at (M : List Nat) (j : Nat) (u : Value) (hu : (ndC K M)[j]? = some u) : ∃ k r, M[k]? = some r /\ (j = k * 2 /\ u = .int .i64 (r : Nat) \/ j = k * 2 + 1 /\ u = .int .i64 (K r : Nat)) := by
  have hj : j < M.length * 2 := by
    rw [<- ndC_len (K := K)]
    exact (List.getElem?_eq_some_iff.1 hu).1
  obtain ⟨r, hr⟩ : ∃ r, M[j / 2]? = some r := ⟨_, List.getElem?_eq_getElem (by omega)⟩
  obtain ⟨h0, h1⟩ := ndC_get (K := K) M (j / 2) r hr
  refine ⟨j / 2, r, hr, ?_⟩
  rcases Nat.mod_two_eq_zero_or_one j with h | h
  · have e : j = j / 2 * 2 := by omega
    rw [<- e, hu] at h0
    exact Or.inl ⟨e, by simpa using h0⟩
  · have e : j = j / 2 * 2 + 1 := by omega
    rw [<- e, hu] at h1
    exact Or.inr ⟨e, by simpa using h1⟩
structure NsOwn (K : Nat -> Nat) (base : Nat) (w : World) (v : Value) (L : List Nat) : Prop where
  row : w.ownsRow base 105 2 v L.length (ndC K L)
variable {base : Nat} {w w' : World} {v : Value} {L : List Nat}
theorem NsOwn.nil (K : Nat -> Nat) (base : Nat) (w : World) : NsOwn K base w (.slice none 0 0) [] := ⟨World.ownsRow_nil w base _ _⟩
theorem NsOwn.keep {bs : List Nat} (h : NsOwn K base w v L) (ha : Apart bs w w') (hb : ∀ k ∈ bs, k < base) : NsOwn K base w' v L := by
  refine ⟨⟨h.row.1, ?_⟩⟩
  rcases h.row.2 with h2 | ⟨g', cap', cur, rfl, h1, hh, rest⟩
  · exact .inl h2
  · exact .inr ⟨g', cap', cur, rfl, h1, (ha.block g' (by rcases Nat.lt_or_ge g' w.heap.size with h | h; exact h; rw [Array.getElem?_eq_none h] at hh; cases hh) (fun hm => by have := hb _ hm; omega)).trans hh, rest⟩
theorem NsOwn.below (h : NsOwn K base w v L) (hb : Below w.heap.size w w') : NsOwn K base w' v L := h.keep (Apart.of_below (bs := []) hb) (by simp)
theorem NsOwn.mono {base' : Nat} (h : NsOwn K base w v L) (hb : base' <= base) : NsOwn K base' w v L := ⟨⟨h.row.1, by
  rcases h.row.2 with h2 | ⟨g', cap', cur, hv, h1, rest⟩
  · exact .inl h2
  · exact .inr ⟨g', cap', cur, hv, Nat.le_trans hb h1, rest⟩⟩⟩
theorem NsOwn.stay (h : NsOwn K base w v L) (hb : ∀ g, v.ownBlock = some g -> w'.heap[g]? = w.heap[g]?) : NsOwn K base w' v L := by
  refine ⟨⟨h.row.1, ?_⟩⟩
  rcases h.row.2 with h2 | ⟨g', cap', cur, rfl, h1, hh, rest⟩
  · exact .inl h2
  · exact .inr ⟨g', cap', cur, rfl, h1, (hb g' rfl).trans hh, rest⟩
theorem NsOwn.form (h : NsOwn K base w v L) : ∃ a cap, v = .slice a L.length cap /\ (L ≠ [] -> ∃ g, a = some ⟨g, 0, none⟩ /\ g < w.heap.size /\ ∀ k r, L[k]? = some r -> w.cell? ⟨g, k * 2, none⟩ = some (.int .i64 (r : Nat)) /\ w.cell? ⟨g, k * 2 + 1, none⟩ = some (.int .i64 (K r : Nat))) := by
  rcases h.row.2 with ⟨rfl, h0⟩ | ⟨g', cap', cur, rfl, h1, hh, h2, h3, h4, h5⟩
  · exact ⟨none, 0, by rw [h0], fun hne => absurd (List.length_eq_zero_iff.1 h0) hne⟩
  · refine ⟨_, cap', rfl, fun hne => ⟨g', rfl, ?_, fun k r hr => ?_⟩⟩
    · rcases Nat.lt_or_ge g' w.heap.size with h | h
      · exact h
      · rw [Array.getElem?_eq_none h] at hh; cases hh
    · obtain ⟨c0, c1⟩ := ndC_get (K := K) L k r hr
      have hk : k < L.length := (List.getElem?_eq_some_iff.1 hr).1
      have hc : ∀ j, j < L.length * 2 -> w.cell? ⟨g', j, none⟩ = (ndC K L)[j]? := fun j hj => h.row.cellAt j hj
      exact ⟨by rw [hc _ (by omega)]; exact c0, by rw [hc _ (by omega)]; exact c1⟩
theorem Tryz.infoFnode : (Tryz.prog.info? 105).map (fun i => (i.zero, i.size, i.bytes)) = some (some (.agg #[.int .i64 0, .int .i64 0]), 2, 16) := by kernel_rfl
theorem NsOwn.appends (h : NsOwn K base w v L) (a : Addr) (m c : Nat) (M : List Nat) (hm : M.length = m) (hc : ∀ k r, M[k]? = some r -> w.cell? (a.add (k * 2)) = some (.int .i64 (r : Nat)) /\ w.cell? (a.add (k * 2 + 1)) = some (.int .i64 (K r : Nat))) (hn : L.length + m <= 1000) (hbase : base <= w.heap.size) (ty : TypeId) :
    ∃ v' w', (Builtin.append_ #[240, 240] ty #[v, .slice (some a) m c]).run Tryz.prog w = .ok v' w' /\ NsOwn K base w' v' (L ++ M) /\ Below base w w' /\ ∀ b, b < w.heap.size -> some b ≠ v.ownBlock -> w'.heap[b]? = w.heap[b]? := by
  obtain ⟨i0, hi, hz0, hz1, hz2⟩ := info_parts3 Tryz.infoFnode
  obtain ⟨v', w', hrun, hown, hgrow, -⟩ := run_append_own (P := Tryz.prog) w base 240 ty 105 i0 (.agg #[.int .i64 0, .int .i64 0]) 2 16 Tryz.underlying240 hi hz0 hz1 hz2 (by simp [Value.cells]) (by decide)
    v L.length _ h.row a m c (ndC K M) (by rw [ndC_len, hm]) (fun j u hu => by
      obtain ⟨k, r, hr, (⟨rfl, rfl⟩ | ⟨rfl, rfl⟩)⟩ := ndC_at M j u hu
      · exact (hc k r hr).1
      · exact (hc k r hr).2) (ndC_one M) (by unfold maxLen; omega) (by omega) hbase
  refine ⟨v', w', hrun, ⟨?_⟩, (Below.refl base w).grown hgrow hbase (fun k hk => (h.row.lt k hk).1), fun b hb hne => hgrow.block b hb hne⟩
  rw [List.length_append, ndC_append, hm]
  exact hown
theorem NsOwn.append_none (h : NsOwn K base w v L) (ty : TypeId) : (Builtin.append_ #[240, 240] ty #[v, .slice none 0 0]).run Tryz.prog w = .ok v w := by
  obtain ⟨i0, hi, hz0, hz1, hz2⟩ := info_parts3 Tryz.infoFnode
  exact run_append_owned_none (P := Tryz.prog) (w := w) base 240 ty 105 i0 2 Tryz.underlying240 hi v L.length _ h.row
theorem nsOwn_one (x : Nat) (hb : base <= w.heap.size) : NsOwn K base (w.alloc (.cells #[.int .i64 (x : Nat), .int .i64 (K x : Nat)] 105)) (.slice (some ⟨w.heap.size, 0, none⟩) 1 1) [x] :=
  ⟨⟨by simp [ndC], Or.inr ⟨w.heap.size, 1, _, rfl, hb, heap_alloc_new _ _, Nat.le_refl _, by first | decide | simp, by first | rfl | simp, by simp [ndC]⟩⟩⟩
structure LvOwn (K : Nat -> Nat) (base : Nat) (w : World) (v : Value) (lv : List (List Nat)) : Prop where
  ex : ∃ vs : List Value, w.ownsRow base 240 1 v lv.length vs /\ vs.length = lv.length /\ ∀ (k : Nat) (x : Value) (l : List Nat), vs[k]? = some x -> lv[k]? = some l -> NsOwn K base w x l /\ x.oneCell' = true
theorem LvOwn.nil (K : Nat -> Nat) (base : Nat) (w : World) : LvOwn K base w (.slice none 0 0) [] := ⟨[], World.ownsRow_nil w base _ _, rfl, fun k x l h => by simp at h⟩
theorem own_stay {T : TypeId} {sz n : Nat} {cs : List Value} {bs : List Nat} (h : w.ownsRow base T sz v n cs) (ha : Apart bs w w') (hb : ∀ k ∈ bs, k < base) : w'.ownsRow base T sz v n cs := by
  refine ⟨h.1, ?_⟩
  rcases h.2 with h2 | ⟨g', cap', cur, rfl, h1, hh, rest⟩
  · exact .inl h2
  · exact .inr ⟨g', cap', cur, rfl, h1, (ha.block g' (by rcases Nat.lt_or_ge g' w.heap.size with h | h; exact h; rw [Array.getElem?_eq_none h] at hh; cases hh) (fun hm => by have := hb _ hm; omega)).trans hh, rest⟩
theorem LvOwn.keep {lv : List (List Nat)} {bs : List Nat} (h : LvOwn K base w v lv) (ha : Apart bs w w') (hb : ∀ k ∈ bs, k < base) : LvOwn K base w' v lv := by
  obtain ⟨vs, h1, h2, h3⟩ := h
  exact ⟨vs, own_stay h1 ha hb, h2, fun k x l hx hl => ⟨(h3 k x l hx hl).1.keep ha hb, (h3 k x l hx hl).2⟩⟩
theorem LvOwn.below {lv : List (List Nat)} (h : LvOwn K base w v lv) (hb : Below w.heap.size w w') : LvOwn K base w' v lv := h.keep (Apart.of_below (bs := []) hb) (by simp)
theorem LvOwn.mono {lv : List (List Nat)} {base' : Nat} (h : LvOwn K base w v lv) (hb : base' <= base) : LvOwn K base' w v lv := by
  obtain ⟨vs, h1, h2, h3⟩ := h
  refine ⟨vs, ⟨h1.1, ?_⟩, h2, fun k x l hx hl => ⟨(h3 k x l hx hl).1.mono hb, (h3 k x l hx hl).2⟩⟩
  rcases h1.2 with h4 | ⟨g', cap', cur, hv, h5, rest⟩
  · exact .inl h4
  · exact .inr ⟨g', cap', cur, hv, Nat.le_trans hb h5, rest⟩
theorem LvOwn.form {lv : List (List Nat)} (h : LvOwn K base w v lv) : ∃ a cap, v = .slice a lv.length cap /\ (lv ≠ [] -> ∃ g, a = some ⟨g, 0, none⟩ /\ g < w.heap.size /\ ∀ k l, lv[k]? = some l -> ∃ x, w.cell? ⟨g, k, none⟩ = some x /\ NsOwn K base w x l) := by
  obtain ⟨vs, h1, h2, h3⟩ := h
  have hrow := h1
  rcases h1.2 with ⟨rfl, h0⟩ | ⟨g', cap', cur, rfl, h1', hh, -, -, -, -⟩
  · exact ⟨none, 0, by rw [h0], fun hne => absurd (List.length_eq_zero_iff.1 h0) hne⟩
  · refine ⟨_, cap', rfl, fun hne => ⟨g', rfl, ?_, fun k l hl => ?_⟩⟩
    · rcases Nat.lt_or_ge g' w.heap.size with h | h
      · exact h
      · rw [Array.getElem?_eq_none h] at hh; cases hh
    · have hk : k < lv.length := (List.getElem?_eq_some_iff.1 hl).1
      obtain ⟨x, hx⟩ : ∃ x, vs[k]? = some x := ⟨_, List.getElem?_eq_getElem (by omega)⟩
      have hc : ∀ j, j < lv.length * 1 -> w.cell? ⟨g', j, none⟩ = vs[j]? := fun j hj => hrow.cellAt j hj
      exact ⟨x, by rw [hc k (by omega)]; exact hx, (h3 k x l hx hl).1⟩
theorem types_apart {b1 b2 s1 s2 n1 n2 : Nat} {T1 T2 : TypeId} {v1 v2 : Value} {c1 c2 : List Value} (h1 : w.ownsRow b1 T1 s1 v1 n1 c1) (h2 : w.ownsRow b2 T2 s2 v2 n2 c2) (hT : T1 ≠ T2) {g : Nat} (hg : v1.ownBlock = some g) : some g ≠ v2.ownBlock := by
  intro e
  rcases h1.2 with ⟨rfl, -⟩ | ⟨g1, _, cur1, rfl, -, hh1, -⟩
  · cases hg
  · rcases h2.2 with ⟨rfl, -⟩ | ⟨g2, _, cur2, rfl, -, hh2, -⟩
    · cases e
    · cases hg
      cases e
      rw [hh1] at hh2
      simp only [Option.some.injEq, Obj.cells.injEq] at hh2
      exact hT hh2.2.1
theorem Tryz.infoFnodes : (Tryz.prog.info? 240).map (fun i => (i.zero, i.size, i.bytes)) = some (some (.slice none 0 0), 1, 24) := by kernel_rfl
theorem LvOwn.push {lv : List (List Nat)} (h : LvOwn K base w v lv) {x : Value} {l : List Nat} (hx : NsOwn K base w x l) (a : Addr) (hc : w.cell? a = some x) (hn : lv.length <= 1000) (hbase : base <= w.heap.size) (ty : TypeId) :
    ∃ v' w', (Builtin.append_ #[232, 232] ty #[v, .slice (some a) 1 1]).run Tryz.prog w = .ok v' w' /\ LvOwn K base w' v' (lv ++ [l]) /\ NsOwn K base w' x l /\ Below base w w' /\ (∀ b, b < w.heap.size -> some b ≠ v.ownBlock -> w'.heap[b]? = w.heap[b]?) := by
  obtain ⟨vs, h1, h2, h3⟩ := h
  obtain ⟨i0, hi, hz0, hz1, hz2⟩ := info_parts3 Tryz.infoFnodes
  have hx1 : x.oneCell' = true := by
    obtain ⟨xa, xc, rfl, -⟩ := hx.form
    rfl
  obtain ⟨v', w', hrun, hown, hgrow, -⟩ := run_append_own (P := Tryz.prog) w base 232 ty 240 i0 (.slice none 0 0) 1 24 Tryz.underlying232 hi hz0 hz1 hz2 (by simp [Value.cells]) (by decide)
    v lv.length _ h1 a 1 1 [x] rfl (fun j u hu => by
      match j with
      | 0 =>
        have : a.add 0 = a := by simp [Addr.add]
        rw [this, hc]; simpa using hu
      | j + 1 => simp at hu) (by intro u hu; obtain rfl := List.mem_singleton.1 hu; exact hx1) (by unfold maxLen; omega) (by omega) hbase
  have hlt : ∀ {y : Value} {m : List Nat}, NsOwn K base w y m -> NsOwn K base w' y m := fun {y m} hy => hy.stay (fun g hg => hgrow.block g (hy.row.lt g hg).2 (types_apart hy.row h1 (by decide) hg))
  refine ⟨v', w', hrun, ⟨vs ++ [x], ?_, by simp [h2], fun k y m hy hm => ?_⟩, hlt hx, (Below.refl base w).grown hgrow hbase (fun k hk => (h1.lt k hk).1), fun b hb hne => hgrow.block b hb hne⟩
  · rw [List.length_append]
    exact hown
  · rcases Nat.lt_or_ge k lv.length with hk | hk
    · rw [List.getElem?_append_left (by omega)] at hy
      rw [List.getElem?_append_left hk] at hm
      exact ⟨hlt (h3 k y m hy hm).1, (h3 k y m hy hm).2⟩
    · rw [List.getElem?_append_right (by omega)] at hy
      rw [List.getElem?_append_right hk] at hm
      rw [h2] at hy
      rcases Nat.eq_or_lt_of_le hk with e | e
      · rw [<- e, Nat.sub_self] at hy hm
        simp at hy hm
        subst hy hm
        exact ⟨hlt hx, hx1⟩
      · rw [List.getElem?_eq_none (by simp; omega)] at hy
        cases hy
end
def idT (L : List Rec) (s : List UInt8) : Nat := match lookT L s with
  | some r => r.id
  | none => 0
def namesT (T : Nat -> List Rec) (x : Nat) : List (List UInt8) := sortS ((T x).map Rec.s)
def kidsT (K : Nat -> Nat) (T : Nat -> List Rec) (x : Nat) : List Nat := if K x = 2 then (namesT T x).map (idT (T x)) else []
theorem names_mem {T : Nat -> List Rec} {x : Nat} {s : List UInt8} (h : s ∈ namesT T x) : ∃ r ∈ T x, r.s = s := by
  have := (List.mergeSort_perm ((T x).map Rec.s) (fun a b => decide (a <= b))).mem_iff.1 h
  obtain ⟨r, h1, h2⟩ := List.mem_map.1 this
  exact ⟨r, h1, h2⟩
theorem look_has {L : List Rec} {s : List UInt8} (h : ∃ r ∈ L, r.s = s) : ∃ q, lookT L s = some q /\ idT L s = q.id := by
  cases hl : lookT L s with
  | none =>
    obtain ⟨r, h1, h2⟩ := h
    exact absurd h2 (lookT_none hl r h1)
  | some q => exact ⟨q, rfl, by unfold idT; rw [hl]⟩
section
variable {fb rs hb : Nat} {E : TE} {w w' : World} {K : Nat -> Nat} {D : Nat -> List Int} {T : Nat -> List Rec} {f u lim : Nat}
theorem children_file {x k : Int} (hk : ¬ k = 2) :
    Calls Tryz.prog 231 #[ptr fb, fnV x k] w fun e w' => e = .returned (.tuple #[.slice none 0 0, .nilIface]) /\ Below w.heap.size w w' := by
  have hB := hidden ((Below.refl w.heap.size w).alloc (Nat.le_refl _) (.cells #[.int .i64 x, .int .i64 k] 105))
  go_enter Tryz.func231, Tryz.ntmps231
  go_wp2
  go_ret2
  exact ⟨rfl, hB.out⟩
theorem children_dir (hF : FsAt fb E rs hb w) (h : S8 E K D f u lim w) (ok : E.Ok) (ht : TreeOk E.tn K D T) {x : Nat} (x1 : 1 <= x) (x2 : x <= E.tn) (hk : K x = 2) :
    Calls Tryz.prog 231 #[ptr fb, fnV (x : Nat) 2] w fun e w' => ∃ v, e = .returned (.tuple #[v, .nilIface]) /\ NsOwn K w.heap.size w' v (kidsT K T x) /\ Below w.heap.size w w' := by
  obtain ⟨hD, hG⟩ := ht.recs x x1 x2 hk
  have hU := hidden (ht.used x x1 x2 hk)
  have hlen : 32 * (T x).length <= 4000 := by
    have := h.len x1 x2
    rw [hD, recsL_len hG.each] at this
    exact this
  have kS := hidden (fun (wx : World) (hx : Below w.heap.size w wx) => h.more hx)
  have kF := hidden (fun (wx : World) (hx : Below w.heap.size w wx) => hF.below hx)
  replace ok := hidden ok
  have hlt := hF.lt
  have hnl : (namesT T x).length = (T x).length := by unfold namesT; rw [sortS_len, List.length_map]
  have hkids : kidsT K T x = (namesT T x).map (idT (T x)) := by unfold kidsT; rw [if_pos hk]
  rw [hkids]
  have hnm := hidden (fun s (hs : s ∈ namesT T x) => names_mem (T := T) (x := x) hs)
  obtain ⟨w1, hw1, hB1, hN1⟩ : ∃ w1, w.alloc (.cells #[.int .i64 (x : Nat), .int .i64 2] 105) = w1 /\ Below w.heap.size w w1 /\ FnAt w1 w.heap.size (x : Nat) 2 := ⟨_, rfl, (Below.refl _ _).alloc (Nat.le_refl _) _, fn_new _ _ _⟩
  have n0 := hN1.c0
  have n1 := hN1.c1
  have hltn := hN1.lt
  have t2 := (kF.out w1 hB1).c2
  have hlt1 := (kF.out w1 hB1).lt
  have kO := hidden (fun (wx : World) (hx : Below w1.heap.size w1 wx) => of_ok ok.out (kS.out wx (hB1.trans (hx.mono hB1.size))) x1 x2 hk)
  replace hB1 := hidden hB1
  clear hF h ht hN1
  generalize hNS : namesT T x = ns at *
  replace hNS := hidden hNS
  replace hkids := hidden hkids
  go_enter Tryz.func231, Tryz.ntmps231
  go_upto_region 3 with fail
  go_region_with (go_at_call 101; refine (kO.out _ (below_drew1 w1)).mono ?_; rintro ev w4 ⟨db, rfl, hdb, d0, d1, hB4⟩)
  all_goals
    have hb4 := hidden (hB1.out.trans (((below_drew1 w1).trans hB4).mono hB1.out.size))
    have hDir : DirAt E db x w4 := ⟨d0, d1⟩
    have hdl := (kS.out w4 hb4.out).dl hD hG hDir
    have kL := hidden (dList_calls hdl.b (eok ok.out x1 x2 hk _) (parse_recs hG) (by omega))
    have hDirK := hidden (fun (wx : World) (hx : Below w4.heap.size w4 wx) => hDir.below hx)
    clear hdl hDir d0 d1 hB4 hdb
    go_wp2_with fail
    refine (kL.out).mono ?_
    rintro ev w5 ⟨nv, rfl, hK5, hB5⟩
    have hsz5 : w.heap.size <= w5.heap.size := Nat.le_trans hb4.out.size hB5.size
    have hb5 := hidden (hb4.out.trans (hB5.mono hb4.out.size))
    have hT5 := hK5.at
    rw [show sortS ((T x).map Rec.s) = ns from hNS.out] at hT5
    obtain ⟨la, lc, rfl, -, hcs⟩ := hT5
    replace hcs := hidden hcs
    replace hB5 := hidden hB5
    clear hK5 kL
    generalize hLL : ns.length = LL at *
    replace hLL := hidden hLL
    go_wp2_with fail
    go_loopg [9, 40] (LL + 1) (fun gk l q wr => ∃ k : Nat, k <= LL /\ gk = LL + 1 - k /\ q = .int .i64 k /\ Hid (NsOwn K w5.heap.size wr l ((ns.take k).map (idT (T x))) /\ Below w5.heap.size w5 wr))
    case atStart => exact ⟨0, by omega, rfl, rfl, hidden ⟨NsOwn.nil _ _ _, Below.refl _ _⟩⟩
    case round =>
      obtain ⟨k, hkL, hgk, rfl, hI⟩ := hrel
      replace hgk := hidden hgk
      obtain ⟨i1, i2⟩ := hI.out
      have hlk : ((ns.take k).map (idT (T x))).length = k := by have := hLL.out; rw [List.length_map, List.length_take]; omega
      obtain ⟨na, nc, hv, -⟩ := i1.form
      rw [hlk] at hv
      subst hv
      replace hlk := hidden hlk
      by_cases hltk : k < LL
      · have hnn : ns ≠ [] := by intro e; have := hLL.out; rw [e] at this; simp at this; omega
        obtain ⟨bb, off, rfl, hbb, hcell⟩ := hcs.out hnn
        obtain ⟨s, hs⟩ : ∃ s, ns[k]? = some s := ⟨_, List.getElem?_eq_getElem (by have := hLL.out; omega)⟩
        have c0 := (i2.cell (p := ⟨bb, off + k, none⟩) hbb).trans (hcell k s hs)
        have hbw : Below w.heap.size w wr := hb5.out.trans (i2.mono hsz5)
        obtain ⟨q, hq1, hq2⟩ := look_has (hnm.out s (List.mem_of_getElem? hs))
        obtain ⟨hqs, iq, hiq⟩ := lookT_some hq1
        subst hqs
        obtain ⟨hqt, hqk⟩ := hU.out q (List.mem_of_getElem? hiq)
        have hdr := hDirK.out wr (hB5.out.trans (i2.mono hB5.out.size))
        have kC := hidden (child_at (kF.out wr hbw) (kS.out wr hbw) ok.out x1 x2 hk hD hG hdr hiq hqt hqk)
        have hkI : (k : Int) < (LL : Int) := by omega
        clear hdr hqt hqk hcell hI
        replace hbb := hidden hbb
        go_wp2_with fail
        refine (kC.out).mono ?_
        rintro ev w6 ⟨rfl, hB6⟩
        have hb6 : Below w5.heap.size w5 w6 := i2.trans (hB6.mono i2.size)
        obtain ⟨w7, hw7, hB7, hN7⟩ : ∃ w7, w6.alloc (.cells #[.int .i64 (q.id : Nat), .int .i64 (K q.id : Nat)] 105) = w7 /\ Below w6.heap.size w6 w7 /\ FnAt w7 w6.heap.size (q.id : Nat) (K q.id : Nat) := ⟨_, rfl, (Below.refl _ _).alloc (Nat.le_refl _) _, fn_new _ _ _⟩
        have m0 := hN7.c0
        have m1 := hN7.c1
        have hlt7 := hN7.lt
        obtain ⟨w8, hw8, hB8, hN8⟩ : ∃ w8, w7.alloc (.cells #[.int .i64 (q.id : Nat), .int .i64 (K q.id : Nat)] 105) = w8 /\ Below w7.heap.size w7 w8 /\ FnAt w8 w7.heap.size (q.id : Nat) (K q.id : Nat) := ⟨_, rfl, (Below.refl _ _).alloc (Nat.le_refl _) _, fn_new _ _ _⟩
        have hb8 := (hb6.trans (hB7.mono hb6.size)).trans (hB8.mono (Nat.le_trans hb6.size hB7.size))
        obtain ⟨v9, w9, hrun, hK9, hB9, -⟩ := (((i1.below hB6).below hB7).below hB8).appends ⟨w7.heap.size, 0, none⟩ 1 1 [q.id] rfl (fun j r hr => by
          match j with
          | 0 =>
            obtain rfl : q.id = r := by simpa using hr
            exact ⟨hN8.c0, hN8.c1⟩
          | j + 1 => simp at hr) (by rw [hlk.out]; omega) hb8.size 240
        have hstep : (ns.take k).map (idT (T x)) ++ [q.id] = (ns.take (k + 1)).map (idT (T x)) := by
          rw [List.take_add_one, hs, List.map_append, <- hq2]
          rfl
        rw [hstep] at hK9
        obtain ⟨a9, c9, rfl, -⟩ := hK9.form
        have hlk9 : ((ns.take (k + 1)).map (idT (T x))).length = k + 1 := by have := hLL.out; rw [List.length_map, List.length_take]; omega
        have hE := hidden (And.intro hK9 (hb8.trans hB9))
        rw [hlk9] at hE hrun
        replace hrun := hidden hrun
        replace hw7 := hidden hw7
        replace hw8 := hidden hw8
        clear i1 i2 hB6 hb6 hB7 hN7 hB8 hN8 hb8 hK9 hB9 hstep hlk9 kC hbw
        generalize ((K q.id : Nat) : Int) = KQ at *
        generalize ((q.id : Nat) : Int) = QI at *
        go_upto_region 14 with fail
        rw [hw7.out]
        clear hw7
        replace hw8 := hw8.out
        go_wp2_with (at_builtin; refine wpList_append_eq _ _ 240 rfl _ _ _ w9 rfl rfl hrun.out rfl ?_)
        go_roundg (LL + 1 - (k + 1))
        case measure => rw [hgk.out]; omega
        case rel => exact ⟨k + 1, hltk, rfl, by go_num, hidden hE.out⟩
      · obtain rfl : k = LL := by omega
        have htk : ns.take k = ns := List.take_of_length_le (by have := hLL.out; omega)
        rw [htk] at i1
        have hE := hidden (And.intro (i1.mono hsz5) (hb5.out.trans (i2.mono hsz5)))
        clear i1 i2 hI
        go_wp2
        go_ret2
        exact ⟨_, rfl, hE.out⟩
end
structure SnOwn (base : Nat) (w : World) (sb N : Nat) (S : Nat -> Bool) : Prop where
  row : w.ownsRow base 4 1 (.slice (some ⟨sb, 0, none⟩) N N) N ((List.range N).map fun i => .bool (S i))
section
variable {base : Nat} {w w' : World} {sb N : Nat} {S : Nat -> Bool} {K : Nat -> Nat}
theorem SnOwn.cell (h : SnOwn base w sb N S) (i : Nat) (hi : i < N) : w.cell? ⟨sb, i, none⟩ = some (.bool (S i)) := by
  have hc : w.cell? ⟨sb, i, none⟩ = ((List.range N).map fun i => Value.bool (S i))[i]? := h.row.cellAt i (by omega)
  rw [hc, List.getElem?_map, List.getElem?_range hi]
  rfl
theorem SnOwn.free (h : SnOwn base w sb N S) (i : Nat) : w.frozen? ⟨sb, i, none⟩ = false := h.row.frozenAt i
theorem SnOwn.lt (h : SnOwn base w sb N S) : base <= sb /\ sb < w.heap.size := h.row.lt sb rfl
theorem SnOwn.congr {S' : Nat -> Bool} (h : SnOwn base w sb N S) (he : ∀ i, i < N -> S i = S' i) : SnOwn base w sb N S' := ⟨by
  have e : ((List.range N).map fun i => Value.bool (S i)) = (List.range N).map fun i => Value.bool (S' i) := List.map_congr_left fun i hi => by rw [he i (List.mem_range.1 hi)]
  rw [<- e]
  exact h.row⟩
theorem SnOwn.set (h : SnOwn base w sb N S) (X : Nat) (b : Bool) : SnOwn base (w.setCell ⟨sb, X, none⟩ (.bool b)) sb N (fun i => if i = X then b else S i) := ⟨by
  have h1 := (h.row.stored X (.bool b)).1
  have e : ((List.range N).map fun i => Value.bool (S i)).set X (.bool b) = (List.range N).map fun i => Value.bool (if i = X then b else S i) := by
    apply List.ext_getElem?
    intro i
    rw [List.getElem?_set, List.getElem?_map, List.getElem?_map, List.length_map, List.length_range]
    by_cases hi : i < N
    · rw [List.getElem?_range hi]
      by_cases hX : X = i
      · subst hX; simp [hi]
      · rw [if_neg hX]
        simp [Ne.symm hX]
    · rw [List.getElem?_eq_none (by simp; omega)]
      simp
      omega
  rw [e] at h1
  exact h1⟩
theorem SnOwn.keep {bs : List Nat} (h : SnOwn base w sb N S) (ha : Apart bs w w') (hb : sb ∉ bs) : SnOwn base w' sb N S := by
  refine ⟨⟨h.row.1, ?_⟩⟩
  rcases h.row.2 with h2 | ⟨g', cap', cur, hv, h1, hh, rest⟩
  · exact .inl h2
  · have e := (Value.slice.inj hv).1
    simp only [Option.some.injEq, Addr.mk.injEq] at e
    obtain ⟨rfl, -⟩ := e
    exact .inr ⟨sb, cap', cur, hv, h1, (ha.block sb (h.lt).2 hb).trans hh, rest⟩
theorem SnOwn.below (h : SnOwn base w sb N S) (hb : Below w.heap.size w w') : SnOwn base w' sb N S := h.keep (Apart.of_below (bs := []) hb) (by simp)
theorem SnOwn.stay (h : SnOwn base w sb N S) (hb : w'.heap[sb]? = w.heap[sb]?) : SnOwn base w' sb N S := by
  refine ⟨⟨h.row.1, ?_⟩⟩
  rcases h.row.2 with h2 | ⟨g', cap', cur, hv, h1, hh, rest⟩
  · exact .inl h2
  · have e := (Value.slice.inj hv).1
    simp only [Option.some.injEq, Addr.mk.injEq] at e
    obtain ⟨rfl, -⟩ := e
    exact .inr ⟨sb, cap', cur, hv, h1, hb.trans hh, rest⟩
theorem snOwn_new (N : Nat) (hN : N <= 1000000) (hb : base <= w.heap.size) : SnOwn base (w.alloc (.cells (madeCells (Value.bool false).cells (N * 1)) 4)) w.heap.size N (fun _ => false) := by
  have hl : (madeCells (Value.bool false).cells (N * 1)).toList = (List.range N).map fun _ => Value.bool false := by
    rw [Nat.mul_one]
    apply List.ext_getElem?
    intro i
    by_cases hi : i < N <;> simp [madeCells, Value.cells, hi, Nat.mod_one]
  have hs : (madeCells (Value.bool false).cells (N * 1)).size = N := by
    have := congrArg List.length hl
    simpa using this
  refine ⟨⟨by simp, Or.inr ⟨w.heap.size, N, _, rfl, hb, heap_alloc_new _ _, Nat.le_refl _, ?_, ?_, ?_⟩⟩⟩
  · unfold maxLen; omega
  · rw [hs, Nat.mul_one]
  · rw [hl, Nat.mul_one, List.take_of_length_le (by simp)]
theorem NsOwn.apartS {v : Value} {L : List Nat} {base' : Nat} (h : NsOwn K base w v L) (hs : SnOwn base' w sb N S) (ha : Apart [sb] w w') : NsOwn K base w' v L :=
  h.stay (fun g hg => ha.block g (h.row.lt g hg).2 (fun hm => types_apart h.row hs.row (by decide) hg (by rw [List.mem_singleton.1 hm]; rfl)))
theorem LvOwn.apartS {v : Value} {lv : List (List Nat)} (h : LvOwn K base w v lv) (hs : SnOwn base w sb N S) (ha : Apart [sb] w w') : LvOwn K base w' v lv := by
  obtain ⟨vs, h1, h2, h3⟩ := h
  refine ⟨vs, ⟨h1.1, ?_⟩, h2, fun k x l hx hl => ⟨(h3 k x l hx hl).1.apartS hs ha, (h3 k x l hx hl).2⟩⟩
  have hne := fun g (hg : v.ownBlock = some g) => types_apart h1 hs.row (by decide) hg
  rcases h1.2 with h4 | ⟨g', cap', cur, rfl, h5, hh, rest⟩
  · exact .inl h4
  · exact .inr ⟨g', cap', cur, rfl, h5, (ha.block g' (by rcases Nat.lt_or_ge g' w.heap.size with h | h; exact h; rw [Array.getElem?_eq_none h] at hh; cases hh) (fun hm => hne g' rfl (by rw [List.mem_singleton.1 hm]; rfl))).trans hh, rest⟩
theorem LvOwn.ne {v : Value} {lv : List (List Nat)} (h : LvOwn K base w v lv) (hs : SnOwn base w sb N S) : some sb ≠ v.ownBlock := by
  obtain ⟨vs, h1, -⟩ := h
  exact types_apart hs.row h1 (by decide) rfl
theorem again_no (hS : SnOwn base w sb N S) (_hN : N <= 1000) {v : Value} {l : List Nat} {base' : Nat} (hl : NsOwn K base' w v l) (hll : l.length <= 1000) (hin : ∀ x ∈ l, x < N /\ S x = false) (hnd : l.Nodup) :
    Calls Tryz.prog 232 #[.slice (some ⟨sb, 0, none⟩) N N, v] w fun e w' => e = .returned (.bool false) /\ SnOwn base w' sb N (fun i => S i || decide (i ∈ l)) /\ Apart [sb] w w' := by
  have hty := hidden (fun g (hg : v.ownBlock = some g) => types_apart hl.row hS.row (by decide) hg)
  obtain ⟨a, cap, rfl, hcs⟩ := hl.form
  have hsbl := hidden hS.lt
  replace hS := hidden hS
  replace hcs := hidden hcs
  replace hin := hidden hin
  replace hnd := hidden hnd
  generalize hLL : l.length = LL at *
  replace hLL := hidden hLL
  clear hl
  go_enter Tryz.func232, Tryz.ntmps232
  go_wp2_with fail
  go_loopg [9] (LL + 1) (fun gk q wr => ∃ k : Nat, k <= LL /\ gk = LL + 1 - k /\ q = .int .i64 k /\ Hid (SnOwn base wr sb N (fun i => S i || decide (i ∈ l.take k)) /\ Apart [sb] w wr))
  case atStart => exact ⟨0, by omega, rfl, rfl, hidden ⟨hS.out.congr (fun i _ => by simp), Apart.refl _ _⟩⟩
  case round =>
    obtain ⟨k, hkL, hgk, rfl, hI⟩ := hrel
    replace hgk := hidden hgk
    by_cases hlt : k < LL
    · obtain ⟨i1, i2⟩ := hI.out
      have hnn : l ≠ [] := by intro e; have := hLL.out; rw [e] at this; simp at this; omega
      obtain ⟨g, rfl, hg, hcell⟩ := hcs.out hnn
      obtain ⟨x, hx⟩ : ∃ x, l[k]? = some x := ⟨_, List.getElem?_eq_getElem (by have := hLL.out; omega)⟩
      have hgs : g ∉ [sb] := fun hm => hty.out g rfl (by rw [List.mem_singleton.1 hm]; rfl)
      obtain ⟨c0, c1⟩ := hcell k x hx
      replace c0 := (i2.cell (p := ⟨g, k * 2, none⟩) hg hgs).trans c0
      replace c1 := (i2.cell (p := ⟨g, k * 2 + 1, none⟩) hg hgs).trans c1
      obtain ⟨x1, x2⟩ := hin.out x (List.mem_of_getElem? hx)
      have hnot : x ∉ l.take k := by
        intro hm
        obtain ⟨j, hj, e⟩ := List.getElem_of_mem hm
        rw [List.getElem_take] at e
        rw [List.length_take] at hj
        have hk' := (List.getElem?_eq_some_iff.1 hx)
        obtain ⟨hk1, hk2⟩ := hk'
        exact List.pairwise_iff_getElem.1 hnd.out j k (by omega) hk1 (by omega) (by rw [e, hk2])
      obtain ⟨w3, hw3, hB3, hN3⟩ : ∃ w3, wr.alloc (.cells #[.int .i64 (x : Nat), .int .i64 (K x : Nat)] 105) = w3 /\ Below wr.heap.size wr w3 /\ FnAt w3 wr.heap.size (x : Nat) (K x : Nat) := ⟨_, rfl, (Below.refl _ _).alloc (Nat.le_refl _) _, fn_new _ _ _⟩
      have n0 := hN3.c0
      have hltn := hN3.lt
      have i1' := i1.below hB3
      have hlts := i1'.lt.2
      have cS := i1'.cell x x1
      have fS := i1'.free x
      simp only [x2, decide_eq_false hnot, Bool.or_false] at cS
      have hE := hidden (show SnOwn base (w3.setCell ⟨sb, x, none⟩ (.bool true)) sb N (fun i => S i || decide (i ∈ l.take (k + 1))) /\ Apart [sb] w (w3.setCell ⟨sb, x, none⟩ (.bool true)) from by
        refine ⟨(i1'.set x true).congr (fun i _ => ?_), (i2.trans (Apart.of_below hB3)).setCell (p := ⟨sb, x, none⟩) (by simp) _⟩
        have e : l.take (k + 1) = l.take k ++ [x] := by rw [List.take_add_one, hx]; rfl
        rw [e]
        by_cases hi : i = x
        · subst hi; simp
        · simp [hi])
      have hkI : (k : Int) < (LL : Int) := by omega
      clear i1 i2 i1' hI hcell hB3 hN3
      generalize ((K x : Nat) : Int) = KX at *
      replace hw3 := hidden hw3
      go_upto_region 4 with fail
      rw [hw3.out]
      clear hw3
      go_wp2
      go_roundg (LL + 1 - (k + 1))
      case measure => rw [hgk.out]; omega
      case rel => exact ⟨k + 1, hlt, rfl, by go_num, hidden hE.out⟩
    · obtain rfl : k = LL := by omega
      have htk : l.take k = l := List.take_of_length_le (by have := hLL.out; omega)
      rw [htk] at hI
      go_wp2
      go_ret
      exact ⟨rfl, hI.out⟩
end
structure LvOk (K : Nat -> Nat) (T : Nat -> List Rec) (tn x : Nat) (lv : List (List Nat)) : Prop where
  first : lv[0]? = some [x]
  next : ∀ j l, lv[j]? = some l -> l ≠ [] /\ l.flatMap (kidsT K T) = (lv[j + 1]?).getD []
  nodup : lv.flatten.Nodup
  inn : ∀ i ∈ lv.flatten, 1 <= i /\ i <= tn
section
variable {K : Nat -> Nat} {T : Nat -> List Rec} {tn x : Nat} {lv : List (List Nat)}
theorem flat_take (lv : List (List Nat)) (j : Nat) : (lv.take (j + 1)).flatten = (lv.take j).flatten ++ (lv[j]?).getD [] := by
  rw [List.take_add_one, List.flatten_append]
  cases lv[j]? <;> simp
theorem flat_sub (lv : List (List Nat)) (j : Nat) : ((lv.take j).flatten).Sublist lv.flatten := by
  have e : lv.flatten = (lv.take j).flatten ++ (lv.drop j).flatten := by rw [<- List.flatten_append, List.take_append_drop]
  rw [e]
  exact List.sublist_append_left _ _
theorem LvOk.pre (h : LvOk K T tn x lv) (j : Nat) : ((lv.take j).flatten).Nodup := h.nodup.sublist (flat_sub lv j)
theorem LvOk.len (h : LvOk K T tn x lv) : lv.length <= tn := by
  have h1 : lv.length <= lv.flatten.length := by
    have : ∀ l : List (List Nat), (∀ q ∈ l, q ≠ []) -> l.length <= l.flatten.length := by
      intro l
      induction l with
      | nil => intro _; simp
      | cons a r ih =>
        intro hne
        have := ih (fun q hq => hne q (by simp [hq]))
        have : 0 < a.length := List.length_pos_iff.2 (hne a (by simp))
        rw [List.flatten_cons, List.length_append, List.length_cons]
        omega
    refine this lv (fun q hq => ?_)
    obtain ⟨i, hi, e⟩ := List.getElem_of_mem hq
    exact (h.next i q (by rw [List.getElem?_eq_getElem hi, e])).1
  have h2 : lv.flatten.length <= tn := by
    have := sub_len lv.flatten ((List.range tn).map (· + 1)) h.nodup (fun i hi => by
      have := h.inn i hi
      exact List.mem_map.2 ⟨i - 1, List.mem_range.2 (by omega), by omega⟩)
    simpa using this
  omega
theorem LvOk.flen (h : LvOk K T tn x lv) (j : Nat) : (lv.take j).flatten.length <= tn := by
  have := sub_len (lv.take j).flatten ((List.range tn).map (· + 1)) (h.pre j) (fun i hi => by
    have := h.inn i ((flat_sub lv j).subset hi)
    exact List.mem_map.2 ⟨i - 1, List.mem_range.2 (by omega), by omega⟩)
  simpa using this
theorem LvOk.fresh (h : LvOk K T tn x lv) {j m y : Nat} {l : List Nat} (hl : lv[j]? = some l) (hy : l[m]? = some y) : (kidsT K T y).Nodup /\ ∀ z ∈ kidsT K T y, z < tn + 1 /\ z ∉ (lv.take (j + 1)).flatten ++ (l.take m).flatMap (kidsT K T) := by
  have hn := (h.next j l hl).2
  have hp := h.pre (j + 2)
  rw [flat_take lv (j + 1), <- hn] at hp
  have hm := (List.getElem?_eq_some_iff.1 hy)
  obtain ⟨hm1, hm2⟩ := hm
  have hsplit : l.flatMap (kidsT K T) = (l.take m).flatMap (kidsT K T) ++ (kidsT K T y ++ (l.drop (m + 1)).flatMap (kidsT K T)) := by
    conv => lhs; rw [<- List.take_append_drop m l, List.flatMap_append, List.drop_eq_getElem_cons hm1, List.flatMap_cons, hm2]
  rw [hsplit, <- List.append_assoc] at hp
  obtain ⟨-, h2, h3⟩ := List.nodup_append.1 hp
  obtain ⟨h4, -, -⟩ := List.nodup_append.1 h2
  refine ⟨h4, fun z hz => ⟨?_, fun hz' => h3 z hz' z (by simp [hz]) rfl⟩⟩
  have : z ∈ (lv.take (j + 2)).flatten := by
    rw [flat_take lv (j + 1), <- hn, hsplit]
    simp [hz]
  have := h.inn z ((flat_sub lv _).subset this)
  omega
theorem take_flat {l : List Nat} {m y : Nat} (hy : l[m]? = some y) (k : Nat -> List Nat) : (l.take (m + 1)).flatMap k = (l.take m).flatMap k ++ k y := by
  rw [List.take_add_one, hy, List.flatMap_append]
  simp
theorem flatm_le (l : List Nat) (m : Nat) (k : Nat -> List Nat) : ((l.take m).flatMap k).length <= (l.flatMap k).length := by
  have e : l.flatMap k = (l.take m).flatMap k ++ (l.drop m).flatMap k := by rw [<- List.flatMap_append, List.take_append_drop]
  rw [e, List.length_append]
  omega
end
section
variable {fb rs hb : Nat} {E : TE} {w w' : World} {K : Nat -> Nat} {D : Nat -> List Int} {T : Nat -> List Rec} {f u lim : Nat}
theorem children_any (hF : FsAt fb E rs hb w) (h : S8 E K D f u lim w) (ok : E.Ok) (ht : TreeOk E.tn K D T) {x : Nat} (x1 : 1 <= x) (x2 : x <= E.tn) :
    Calls Tryz.prog 231 #[ptr fb, fnV (x : Nat) (K x : Nat)] w fun e w' => ∃ v, e = .returned (.tuple #[v, .nilIface]) /\ NsOwn K w.heap.size w' v (kidsT K T x) /\ Below w.heap.size w w' := by
  by_cases hk : K x = 2
  · rw [hk]
    exact children_dir hF h ok ht x1 x2 hk
  · refine (children_file (fb := fb) (w := w) (x := (x : Nat)) (k := (K x : Nat)) (by omega)).mono ?_
    rintro e w' ⟨rfl, hB⟩
    have : kidsT K T x = [] := by unfold kidsT; rw [if_neg hk]
    rw [this]
    exact ⟨_, rfl, NsOwn.nil _ _ _, hB⟩
theorem levels_calls (hF : FsAt fb E rs hb w) (h : S8 E K D f u lim w) (ok : E.Ok) (ht : TreeOk E.tn K D T) {x : Nat} (x1 : 1 <= x) (x2 : x <= E.tn) {lv : List (List Nat)} (hlv : LvOk K T E.tn x lv) :
    Calls Tryz.prog 183 #[ptr fb, fnV (x : Nat) (K x : Nat)] w fun e w' => ∃ v, e = .returned (.tuple #[v, .nilIface]) /\ LvOwn K w.heap.size w' v lv /\ Below w.heap.size w w' := by
  have htn := ok.tn
  have kC := hidden (fun (wx : World) (hx : Below w.heap.size w wx) (y : Nat) (y1 : 1 <= y) (y2 : y <= E.tn) => children_any (hF.below hx) (h.more hx) ok ht y1 y2)
  have hlen := hlv.len
  have c3 := hF.c3
  have hlt := hF.lt
  have k3 := hidden (fun (wx : World) (hx : Below w.heap.size w wx) => (hF.below hx).c3)
  generalize hN : E.tn = tn at *
  replace hlv := hidden hlv
  clear hF h ok ht
  obtain ⟨w1, hw1, hB1, hN1⟩ : ∃ w1, w.alloc (.cells #[.int .i64 (x : Nat), .int .i64 (K x : Nat)] 105) = w1 /\ Below w.heap.size w w1 /\ FnAt w1 w.heap.size (x : Nat) (K x : Nat) := ⟨_, rfl, (Below.refl _ _).alloc (Nat.le_refl _) _, fn_new _ _ _⟩
  have d3 := k3.out w1 hB1
  have hlt1 : fb < w1.heap.size := lt_of_cell (a := ⟨fb, 3, none⟩) d3
  have hmk := make_bools (tn + 1) (by omega) w1
  obtain ⟨w2, hw2, hB2, hS2⟩ : ∃ w2, w1.alloc (.cells (madeCells (Value.bool false).cells ((tn + 1) * 1)) 4) = w2 /\ Below w1.heap.size w1 w2 /\ SnOwn w.heap.size w2 w1.heap.size (tn + 1) (fun _ => false) := ⟨_, rfl, (Below.refl _ _).alloc (Nat.le_refl _) _, snOwn_new _ (by omega) hB1.size⟩
  rw [hw2] at hmk
  have hN2 := hN1.below hB2
  have n0 := hN2.c0
  have hltn2 := hN2.lt
  have sc := hS2.cell x (by omega)
  have sf := hS2.free x
  have hlts := hS2.lt.2
  have hA3 : Apart [w1.heap.size] w2 (w2.setCell ⟨w1.heap.size, x, none⟩ (.bool true)) := (Apart.refl _ _).setCell (p := ⟨w1.heap.size, x, none⟩) (by simp) _
  obtain ⟨w3, hw3, hS3, hN3, hB3⟩ : ∃ w3, w2.setCell ⟨w1.heap.size, x, none⟩ (.bool true) = w3 /\ SnOwn w.heap.size w3 w1.heap.size (tn + 1) (fun i => decide (i ∈ (lv.take 1).flatten)) /\ FnAt w3 w.heap.size (x : Nat) (K x : Nat) /\ Below w.heap.size w w3 := by
    refine ⟨_, rfl, (hS2.set x true).congr (fun i _ => ?_), hN2.keep hA3 (by have := hN1.lt; simp; omega), ?_⟩
    · have e : (lv.take 1).flatten = [x] := by
        have := flat_take lv 0
        rw [hlv.out.first] at this
        simpa using this
      rw [e]
      by_cases hi : i = x <;> simp [hi]
    · have hB02 := hB1.trans (hB2.mono hB1.size)
      exact hB02.setCell (p := ⟨w1.heap.size, x, none⟩) hB1.size _
  have m0 := hN3.c0
  have m1 := hN3.c1
  have hltm := hN3.lt
  obtain ⟨w4, hw4, hB4, hL4⟩ : ∃ w4, w3.alloc (.cells #[.int .i64 (x : Nat), .int .i64 (K x : Nat)] 105) = w4 /\ Below w3.heap.size w3 w4 /\ NsOwn K w.heap.size w4 (.slice (some ⟨w3.heap.size, 0, none⟩) 1 1) [x] := ⟨_, rfl, (Below.refl _ _).alloc (Nat.le_refl _) _, nsOwn_one x hB3.size⟩
  have hI4 := hidden (show LvOwn K w.heap.size w4 (.slice none 0 0) (lv.take 0) /\ NsOwn K w.heap.size w4 (.slice (some ⟨w3.heap.size, 0, none⟩) 1 1) ((lv[0]?).getD []) /\ SnOwn w.heap.size w4 w1.heap.size (tn + 1) (fun i => decide (i ∈ (lv.take (0 + 1)).flatten)) /\ Below w.heap.size w w4 from ⟨LvOwn.nil _ _ _, by rw [hlv.out.first]; exact hL4, hS3.below hB4, hB3.trans (hB4.mono hB3.size)⟩)
  have hl0 : Hid (1 = ((lv[0]?).getD []).length) := hidden (by rw [hlv.out.first]; rfl)
  have hsbB := hB1.size
  generalize hsb : w1.heap.size = sb at *
  clear hS2 hN1 hN2 hN3 hS3 hB1 hB2 hA3 hB3 hB4 hL4
  generalize hKX : ((K x : Nat) : Int) = KX at *
  replace hmk : (Instr.makeSlice 173 (.int .i64 ((tn : Int) + 1)) (.int .i64 ((tn : Int) + 1))).run Tryz.prog w1 = .ok (.slice (some ⟨sb, 0, none⟩) (tn + 1) (tn + 1)) w2 := hmk
  generalize hLV : lv.length = LV at *
  replace hLV := hidden hLV
  clear hl0
  go_enter Tryz.func183, Tryz.ntmps183
  go_wp2_with fail
  go_loopg [7, 8] (LV + 1) (fun gk av bv wr => ∃ j : Nat, j <= LV /\ gk = LV + 1 - j /\ Hid (LvOwn K w.heap.size wr av (lv.take j) /\ NsOwn K w.heap.size wr bv ((lv[j]?).getD []) /\ SnOwn w.heap.size wr sb (tn + 1) (fun i => decide (i ∈ (lv.take (j + 1)).flatten)) /\ Below w.heap.size w wr))
  case atStart => exact ⟨0, by omega, rfl, hI4⟩
  case round =>
    obtain ⟨j, hj, hgkO, hIO⟩ := hrel
    replace hgkO := hidden hgkO
    clear hI4
    obtain ⟨i1, i2, i3, i4⟩ := hIO.out
    have hlj : (lv.take j).length = j := by have := hLV.out; rw [List.length_take]; omega
    have hne1 := i1.ne i3
    have hlj' := hidden hlj
    obtain ⟨aa, ac, rfl, -⟩ := i1.form
    rw [hlj] at i1 hne1 ⊢
    obtain ⟨ba, bc, rfl, -⟩ := i2.form
    by_cases hlt : j < LV
    · obtain ⟨l, hl⟩ : ∃ l, lv[j]? = some l := ⟨_, List.getElem?_eq_getElem (by have := hLV.out; omega)⟩
      have hgl : (lv[j]?).getD [] = l := by rw [hl]; rfl
      rw [hgl] at i2 ⊢
      have hlne : 0 < l.length := List.length_pos_iff.2 (hlv.out.next j l hl).1
      have hll : l.length <= 200 := by
        have := hlv.out.flen (j + 1)
        rw [flat_take, hl, List.length_append] at this
        have e : ((some l).getD []).length = l.length := rfl
        omega
      obtain ⟨w5, hw5, hB5, c5⟩ : ∃ w5, wr.alloc (.cells #[.slice ba l.length bc] 240) = w5 /\ Below wr.heap.size wr w5 /\ w5.cell? ⟨wr.heap.size, 0, none⟩ = some (.slice ba l.length bc) := ⟨_, rfl, (Below.refl _ _).alloc (Nat.le_refl _) _, by simp⟩
      have hs5 : w.heap.size <= w5.heap.size := Nat.le_trans i4.size hB5.size
      obtain ⟨v6, w6, hrun, hL6, hN6, hB6, hbl6⟩ := (i1.below hB5).push (i2.below hB5) ⟨wr.heap.size, 0, none⟩ c5 (by have := hlj'.out; omega) hs5 232
      have hS6 := ((i3.below hB5).stay (hbl6 sb (i3.below hB5).lt.2 hne1))
      have hb6 : Below w.heap.size w w6 := (i4.trans (hB5.mono i4.size)).trans hB6
      have hst : lv.take j ++ [l] = lv.take (j + 1) := by rw [List.take_add_one, hl]; rfl
      rw [hst] at hL6
      have hlj1 : (lv.take (j + 1)).length = j + 1 := by have := hLV.out; rw [List.length_take]; omega
      have hL6' := hidden hL6
      obtain ⟨a6, c6, rfl, -⟩ := hL6.form
      rw [hlj1] at hrun hL6'
      have hH6 := hidden (And.intro hN6 (And.intro hS6 hb6))
      have hln := hidden (hlv.out.next j l hl).2
      replace hrun := hidden hrun
      clear i1 i2 i3 i4 hIO hB5 hB6 hbl6 hS6 hN6 hL6 hb6 hst hlj1 hne1 c5
      generalize hLN : l.length = LN at *
      replace hLN := hidden hLN
      have hs6 : Hid (w.heap.size <= w6.heap.size) := hidden hH6.out.2.2.size
      go_wp2_with (at_builtin; refine wpList_append_eq _ _ 232 rfl _ _ _ w6 rfl rfl hrun.out rfl ?_)
      go_loopg [9, 35] (LN + 1) (fun gk bl q w8 => ∃ m : Nat, m <= LN /\ gk = LN + 1 - m /\ q = .int .i64 m /\ Hid (NsOwn K w6.heap.size w8 bl ((l.take m).flatMap (kidsT K T)) /\ SnOwn w.heap.size w8 sb (tn + 1) (fun i => decide (i ∈ (lv.take (j + 1)).flatten ++ (l.take m).flatMap (kidsT K T))) /\ Apart [sb] w6 w8))
      case atStart => exact ⟨0, by omega, rfl, rfl, hidden ⟨NsOwn.nil _ _ _, hH6.out.2.1.congr (fun i _ => by simp), Apart.refl _ _⟩⟩
      case round =>
        obtain ⟨m, hm, hgk, rfl, hI⟩ := hrel
        replace hgk := hidden hgk
        obtain ⟨i1, i2, i3⟩ := hI.out
        have hb8 : Below w.heap.size w wr := hH6.out.2.2.trans (i3.below (by simp; exact hsbB) hs6.out)
        have hfl : ((l.take m).flatMap (kidsT K T)).length <= 200 := by
          have h1 := hlv.out.flen (j + 2)
          rw [flat_take, <- hln.out, List.length_append] at h1
          have h2 : ((l.take m).flatMap (kidsT K T)).length <= (l.flatMap (kidsT K T)).length := flatm_le l m _
          omega
        by_cases hltm : m < LN
        · obtain ⟨y, hy⟩ : ∃ y, l[m]? = some y := ⟨_, List.getElem?_eq_getElem (by have := hLN.out; omega)⟩
          obtain ⟨hfn, hff⟩ := hlv.out.fresh hl hy
          have hym : y ∈ lv.flatten := List.mem_flatten.2 ⟨l, List.mem_of_getElem? hl, List.mem_of_getElem? hy⟩
          obtain ⟨y1, y2⟩ := hlv.out.inn y hym
          have hkl : (kidsT K T y).length <= 200 := by
            have h1 := hlv.out.flen (j + 2)
            rw [flat_take, <- hln.out, List.length_append] at h1
            have h2 : ((l.take (m + 1)).flatMap (kidsT K T)).length <= (l.flatMap (kidsT K T)).length := flatm_le l (m + 1) _
            rw [take_flat hy, List.length_append] at h2
            omega
          have hlev := hH6.out.1.apartS hH6.out.2.1 i3
          obtain ⟨a', cap', hv', hcs⟩ := hlev.form
          obtain ⟨rfl, -, rfl⟩ := Value.slice.inj hv'
          obtain ⟨g, rfl, hg, hcell⟩ := hcs (by intro e; rw [e] at hy; simp at hy)
          obtain ⟨c0, c1⟩ := hcell m y hy
          obtain ⟨w9, hw9, hB9, hN9⟩ : ∃ w9, wr.alloc (.cells #[.int .i64 (y : Nat), .int .i64 (K y : Nat)] 105) = w9 /\ Below wr.heap.size wr w9 /\ FnAt w9 wr.heap.size (y : Nat) (K y : Nat) := ⟨_, rfl, (Below.refl _ _).alloc (Nat.le_refl _) _, fn_new _ _ _⟩
          have n0 := hN9.c0
          have n1 := hN9.c1
          have hlt9 := hN9.lt
          have hb9 : Below w.heap.size w w9 := hb8.trans (hB9.mono hb8.size)
          have kC9 := hidden (kC.out w9 hb9 y y1 y2)
          have hH9 := hidden (And.intro (i1.below hB9) (And.intro (i2.below hB9) (And.intro (i3.trans (Apart.of_below hB9)) hb9)))
          have hmI : (m : Int) < (LN : Int) := by omega
          have hff' := hidden (And.intro hfn hff)
          obtain ⟨bla, blc, rfl, -⟩ := i1.form
          generalize hFL : ((l.take m).flatMap (kidsT K T)).length = FL at *
          replace hFL := hidden hFL
          clear i1 i2 i3 hI hlev hcs hcell hB9 hN9 hb9 hfn hff hv' hb8
          generalize hKY : ((K y : Nat) : Int) = KY at *
          replace hKY := hidden hKY
          replace hw9 := hidden hw9
          go_upto_region 11 with fail
          rw [hw9.out]
          clear hw9
          go_wp2_with fail
          refine (kC9.out).mono ?_
          rintro ev w10 ⟨kv, rfl, hK10, hB10⟩
          have hS10 := hH9.out.2.1.below hB10
          have hA10 := hH9.out.2.2.1.trans (Apart.of_below hB10)
          have kA := hidden (again_no hS10 (by omega) hK10 (by omega) (fun z hz => ⟨(hff'.out.2 z hz).1, decide_eq_false (hff'.out.2 z hz).2⟩) hff'.out.1)
          have hH10 := hidden (And.intro (hH9.out.1.below hB10) (And.intro hS10 (And.intro hA10 hK10)))
          obtain ⟨ka, kc, rfl, -⟩ := hK10.form
          have hs10 : Hid (w6.heap.size <= w10.heap.size) := hidden hA10.size
          have hs9 : Hid (w9.heap.size <= w10.heap.size) := hidden hB10.size
          clear hB10 hS10 hA10 hK10 kC9
          generalize hKL : (kidsT K T y).length = KL at *
          replace hKL := hidden hKL
          go_wp2_with fail
          refine (kA.out).mono ?_
          rintro ev w11 ⟨rfl, hS11, hA11⟩
          have hbl11 := hH10.out.1.apartS hH10.out.2.1 hA11
          have hkv11 := hH10.out.2.2.2.apartS hH10.out.2.1 hA11
          have hA611 := hH10.out.2.2.1.trans hA11
          have hs11 : w6.heap.size <= w11.heap.size := hA611.size
          have hSn : SnOwn w.heap.size w11 sb (tn + 1) (fun i => decide (i ∈ (lv.take (j + 1)).flatten ++ (l.take (m + 1)).flatMap (kidsT K T))) := hS11.congr (fun i _ => by
            rw [take_flat hy, <- List.append_assoc]
            simp only [List.mem_append]
            by_cases h1 : i ∈ (lv.take (j + 1)).flatten <;> by_cases h2 : i ∈ (l.take m).flatMap (kidsT K T) <;> by_cases h3 : i ∈ kidsT K T y <;> simp [h1, h2, h3])
          obtain ⟨v12, w12, hrun12, hN12, hB12, hbl12⟩ : ∃ v12 w12, (Builtin.append_ #[240, 240] 240 #[.slice bla FL blc, .slice ka KL kc]).run Tryz.prog w11 = .ok v12 w12 /\ NsOwn K w6.heap.size w12 v12 ((l.take (m + 1)).flatMap (kidsT K T)) /\ Below w6.heap.size w11 w12 /\ True := by
            rcases hkv11.row.2 with ⟨hv, h0⟩ | ⟨g', cap', cur, hv, h1, hh, -, -, -, -⟩
            · have hke : kidsT K T y = [] := List.length_eq_zero_iff.1 h0
              rw [hv]
              refine ⟨_, w11, hbl11.append_none _, ?_, Below.refl _ _, trivial⟩
              rw [take_flat hy, hke, List.append_nil]
              exact hbl11
            · obtain ⟨a2, c2, hv2, hcs2⟩ := hkv11.form
              have hcc : ∀ k r, (kidsT K T y)[k]? = some r -> w11.cell? ((⟨g', 0, none⟩ : Addr).add (k * 2)) = some (.int .i64 (r : Nat)) /\ w11.cell? ((⟨g', 0, none⟩ : Addr).add (k * 2 + 1)) = some (.int .i64 (K r : Nat)) := fun k r hr => by
                obtain ⟨g2, e2, -, hc2⟩ := hcs2 (by intro e; rw [e] at hr; simp at hr)
                have e3 := (Value.slice.inj (hv.symm.trans hv2)).1
                rw [e2] at e3
                simp only [Option.some.injEq, Addr.mk.injEq] at e3
                obtain ⟨rfl, -⟩ := e3
                have := hc2 k r hr
                rw [Go.WideShapes.add_plain, Go.WideShapes.add_plain, Nat.zero_add, Nat.zero_add]
                exact this
              rw [hv]
              obtain ⟨v', w', q1, q2, q3, -⟩ := hbl11.appends ⟨g', 0, none⟩ (kidsT K T y).length cap' (kidsT K T y) rfl hcc (by rw [hFL.out]; have := hKL.out; omega) hs11 240
              refine ⟨v', w', q1, ?_, q3, trivial⟩
              rw [take_flat hy]
              exact q2
          have hE := hidden (show NsOwn K w6.heap.size w12 v12 ((l.take (m + 1)).flatMap (kidsT K T)) /\ SnOwn w.heap.size w12 sb (tn + 1) (fun i => decide (i ∈ (lv.take (j + 1)).flatten ++ (l.take (m + 1)).flatMap (kidsT K T))) /\ Apart [sb] w6 w12 from ⟨hN12, hSn.stay (hB12.block sb (by have := hH6.out.2.1.lt; omega)), hA611.over (Nat.le_refl _) hB12⟩)
          replace hrun12 := hidden hrun12
          clear hbl11 hkv11 hA611 hSn hN12 hB12 hbl12 hS11 hA11 kA hH10
          go_wp2_with (at_builtin; refine wpList_append_eq _ _ 240 rfl _ _ _ w12 rfl rfl hrun12.out rfl ?_)
          go_roundg (LN + 1 - (m + 1))
          case measure => rw [hgk.out]; omega
          case rel => exact ⟨m + 1, hltm, rfl, by go_num, hE⟩
        · obtain rfl : m = LN := by omega
          have htk : l.take m = l := List.take_of_length_le (by have := hLN.out; omega)
          rw [htk] at i1 i2
          have e1 := hidden (hL6'.out.apartS hH6.out.2.1 i3)
          have e2 := hidden (i1.mono hs6.out)
          rw [hln.out] at e2
          have e3 := hidden (i2.congr (S' := fun i => decide (i ∈ (lv.take (j + 1 + 1)).flatten)) (fun i _ => by rw [flat_take lv (j + 1), <- hln.out]))
          have e4 := hidden hb8
          clear i1 i2 i3 hI hb8
          go_wp2
          go_roundg (LV + 1 - (j + 1))
          case measure => rw [hgkO.out]; omega
          case rel => exact ⟨j + 1, hlt, rfl, hidden ⟨e1.out, e2.out, e3.out, e4.out⟩⟩
    · obtain rfl : j = LV := by omega
      have hnone : lv[j]? = none := List.getElem?_eq_none (by have := hLV.out; omega)
      have hgl : (lv[j]?).getD [] = [] := by rw [hnone]; rfl
      rw [hgl] at *
      have htk : lv.take j = lv := List.take_of_length_le (by have := hLV.out; omega)
      rw [htk] at i1
      have hE := hidden (And.intro i1 i4)
      clear i1 i2 i3 i4 hIO
      go_wp2
      go_ret2
      exact ⟨_, rfl, hE.out⟩
end
end Go.Proofs.YtpofmiecjkghgaaGreatDoor
