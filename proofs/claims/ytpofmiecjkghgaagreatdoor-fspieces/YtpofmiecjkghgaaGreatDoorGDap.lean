/- Records of names with ids, as bytes: how they are laid, and what any bytes are read as. -/
import Derived.Test.YtpofmiecjkghgaaGreatDoorGNwp
import Derived.Test.YtpofmiecjkghgaaGreatDoorGBsp
import Derived.Test.YtpofmiecjkghgaaGreatDoorApp
namespace Go.Proofs.YtpofmiecjkghgaaGreatDoor
open Go.RowKit Go.Extern.Stop Go.Stop Go.Extern
set_option maxRecDepth 100000
set_option maxHeartbeats 2000000
structure Rec where
  s : List UInt8
  id : Nat
def bI (s : List UInt8) : List Int := s.map fun c => (c.toNat : Int)
def toU (z : List Int) : List UInt8 := z.map fun n => UInt8.ofNat n.toNat
theorem bI_len (s : List UInt8) : (bI s).length = s.length := by simp [bI]
theorem toU_bI (s : List UInt8) : toU (bI s) = s := by
  unfold toU bI
  rw [List.map_map]
  have : ((fun n : Int => UInt8.ofNat n.toNat) ∘ fun c : UInt8 => (c.toNat : Int)) = id := by funext c; simp
  rw [this, List.map_id]
theorem bI_range (s : List UInt8) : ∀ z ∈ bI s, 0 <= z /\ z <= 255 := by
  intro z hz
  obtain ⟨c, -, rfl⟩ := List.mem_map.1 hz
  have := c.toNat_lt
  omega
theorem ofB_listD (ns : List Int) : (ofBytes ns).data.toList = ns.map fun n => UInt8.ofNat n.toNat := by
  have key : ∀ (ns : List Int) (r : ByteArray), (ns.foldl (fun r n => r.push (UInt8.ofNat n.toNat)) r).data.toList = r.data.toList ++ ns.map fun n => UInt8.ofNat n.toNat := by
    intro ns
    induction ns with
    | nil => intro r; simp
    | cons n l ih => intro r; rw [List.foldl_cons, ih]; simp
  have := key ns ByteArray.empty
  simpa [ofBytes] using this
theorem ofB_toU (z : List Int) : ofBytes z = mkB (toU z) := by
  have h := ofB_listD z
  have : mkB (ofBytes z).data.toList = mkB (toU z) := by rw [h]; rfl
  rw [<- this, mk_back]
def idB (id : Nat) : List Int := [((id / 16777216 % 256 : Nat) : Int), ((id / 65536 % 256 : Nat) : Int), ((id / 256 % 256 : Nat) : Int), ((id % 256 : Nat) : Int)]
theorem idB_len (id : Nat) : (idB id).length = 4 := rfl
def recB (r : Rec) : List Int := ((r.s.length : Nat) : Int) :: (bI r.s ++ (List.replicate (27 - r.s.length) 0 ++ idB r.id))
theorem recB_len {r : Rec} (h : r.s.length <= 27) : (recB r).length = 32 := by
  unfold recB
  rw [List.length_cons, List.length_append, List.length_append, List.length_replicate, bI_len, idB_len]
  omega
def recsL : List Rec -> List Int
  | [] => []
  | r :: l => recB r ++ recsL l
theorem recsL_append : ∀ a b, recsL (a ++ b) = recsL a ++ recsL b
  | [], _ => rfl
  | r :: a, b => by simp [recsL, recsL_append a b]
structure Rec.Good (r : Rec) : Prop where
  ok : okB r.s = true
  lo : 1 <= r.id
  hi : r.id < 4294967296
theorem okB_len {s : List UInt8} (h : okB s = true) : 1 <= s.length /\ s.length <= 27 := by
  unfold okB at h
  simp only [Bool.and_eq_true, decide_eq_true_eq] at h
  omega
theorem Rec.Good.len {r : Rec} (h : r.Good) : r.s.length <= 27 := (okB_len h.ok).2
structure GoodL (L : List Rec) : Prop where
  each : ∀ r ∈ L, r.Good
  nodup : (L.map Rec.s).Nodup
theorem recsL_len : ∀ {L : List Rec}, (∀ r ∈ L, r.Good) -> (recsL L).length = 32 * L.length
  | [], _ => rfl
  | r :: l, h => by
    rw [recsL, List.length_append, recB_len (h r (by simp)).len, recsL_len (fun q hq => h q (by simp [hq])), List.length_cons]
    omega
def numB (zs : List Int) : Int := zs.foldl (fun a d => a * 256 + d) 0
theorem numB_id {id : Nat} (h : id < 4294967296) : numB (idB id) = (id : Int) := by
  simp only [numB, idB, List.foldl_cons, List.foldl_nil]
  omega
def restB (b : List Int) (n : Nat) : List Int := (b.drop (1 + n)).take (27 - n)
def readB (b : List Int) : Option Rec :=
  if 27 < (b.getD 0 0).toNat then none
  else if okB (toU ((b.drop 1).take (b.getD 0 0).toNat)) && (restB b (b.getD 0 0).toNat).all (fun z => z == 0) && !(numB (b.drop 28) == 0) then some ⟨toU ((b.drop 1).take (b.getD 0 0).toNat), (numB (b.drop 28)).toNat⟩
  else none
theorem read_rec {r : Rec} (h : r.Good) : readB (recB r) = some r := by
  have hl := h.len
  have hlo := h.lo
  have hhi := h.hi
  have e0 : ((recB r).getD 0 0).toNat = r.s.length := by simp [recB]
  have e1 : ((recB r).drop 1).take r.s.length = bI r.s := by
    unfold recB
    rw [List.drop_one, List.tail_cons, List.take_append_of_le_length (by rw [bI_len]; omega), List.take_of_length_le (by rw [bI_len]; omega)]
  have e2 : restB (recB r) r.s.length = List.replicate (27 - r.s.length) 0 := by
    unfold restB recB
    rw [Nat.add_comm 1, List.drop_succ_cons, List.drop_append_of_le_length (by rw [bI_len]; omega), List.drop_of_length_le (by rw [bI_len]; omega), List.nil_append, List.take_append_of_le_length (by rw [List.length_replicate]; omega), List.take_of_length_le (by rw [List.length_replicate]; omega)]
  have e3 : (recB r).drop 28 = idB r.id := by
    unfold recB
    rw [show (28 : Nat) = 27 + 1 from rfl, List.drop_succ_cons, <- List.append_assoc, List.drop_append_of_le_length (by rw [List.length_append, bI_len, List.length_replicate]; omega), List.drop_of_length_le (by rw [List.length_append, bI_len, List.length_replicate]; omega), List.nil_append]
  unfold readB
  rw [e0, e1, e2, e3, toU_bI, numB_id h.hi, if_neg (by omega), h.ok]
  have e4 : (List.replicate (27 - r.s.length) (0 : Int)).all (fun z => z == 0) = true := by simp
  have e5 : ((r.id : Int) == 0) = false := by simp; omega
  rw [e4, e5, if_pos (by decide)]
  simp
theorem numB_range {zs : List Int} (h : ∀ z ∈ zs, 0 <= z /\ z <= 255) (hl : zs.length = 4) : 0 <= numB zs /\ numB zs < 4294967296 := by
  match zs, hl with
  | [a, b, c, d], _ =>
    have ha := h a (by simp); have hb := h b (by simp); have hc := h c (by simp); have hd := h d (by simp)
    simp only [numB, List.foldl_cons, List.foldl_nil]
    omega
theorem readB_good {b : List Int} {r : Rec} (hb : ∀ z ∈ b, 0 <= z /\ z <= 255) (hl : b.length = 32) (h : readB b = some r) : r.Good := by
  unfold readB at h
  split at h
  · cases h
  · split at h
    · rename_i h1 h2
      simp only [Bool.and_eq_true, Bool.not_eq_true', beq_eq_false_iff_ne] at h2
      have hr := numB_range (zs := b.drop 28) (fun z hz => hb z (List.mem_of_mem_drop hz)) (by rw [List.length_drop]; omega)
      cases h
      exact ⟨h2.1.1, by show 1 <= (numB (b.drop 28)).toNat; omega, by show (numB (b.drop 28)).toNat < _; omega⟩
    · cases h
def parseK (b : List Int) : Nat -> Option (List Rec)
  | 0 => some []
  | k + 1 => match parseK b k with
    | none => none
    | some l => match readB ((b.drop (32 * k)).take 32) with
      | none => none
      | some r => if l.any (fun q => q.s == r.s) then none else some (l ++ [r])
def parseB (b : List Int) : Option (List Rec) := if b.length % 32 = 0 then parseK b (b.length / 32) else none
theorem recsL_at : ∀ {L : List Rec}, (∀ r ∈ L, r.Good) -> ∀ {k : Nat} {r : Rec}, L[k]? = some r -> ((recsL L).drop (32 * k)).take 32 = recB r
  | [], _, k, r, h => by simp at h
  | q :: l, hg, 0, r, h => by
    simp at h; subst h
    have := recB_len (hg q (by simp)).len
    rw [Nat.mul_zero, List.drop_zero, recsL, List.take_append_of_le_length (by omega), List.take_of_length_le (by omega)]
  | q :: l, hg, k + 1, r, h => by
    have hq := recB_len (hg q (by simp)).len
    rw [recsL, show 32 * (k + 1) = (recB q).length + 32 * k by omega, List.drop_append, List.drop_of_length_le (by omega), List.nil_append, show (recB q).length + 32 * k - (recB q).length = 32 * k by omega]
    exact recsL_at (fun x hx => hg x (by simp [hx])) (by simpa using h)
theorem parseK_recs {L : List Rec} (h : GoodL L) : ∀ k, k <= L.length -> parseK (recsL L) k = some (L.take k)
  | 0, _ => rfl
  | k + 1, hk => by
    have hr : L[k]? = some L[k] := List.getElem?_eq_getElem (by omega)
    unfold parseK
    rw [parseK_recs h k (by omega), recsL_at h.each hr, read_rec (h.each _ (List.getElem_mem (by omega)))]
    have hno : (L.take k).any (fun q => q.s == L[k].s) = false := by
      rw [List.any_eq_false]
      intro q hq e
      obtain ⟨i, hi, rfl⟩ := List.getElem_of_mem hq
      rw [List.length_take] at hi
      have hn := List.pairwise_iff_getElem.1 h.nodup i k (by rw [List.length_map]; omega) (by rw [List.length_map]; omega) (by omega)
      rw [List.getElem_map, List.getElem_map] at hn
      rw [List.getElem_take] at e
      exact hn (eq_of_beq e)
    show (if (L.take k).any (fun q => q.s == L[k].s) = true then none else some (L.take k ++ [L[k]])) = _
    rw [hno, if_neg (by decide), List.take_add_one, hr]
    rfl
theorem parse_recs {L : List Rec} (h : GoodL L) : parseB (recsL L) = some L := by
  have hl := recsL_len h.each
  unfold parseB
  rw [hl, if_pos (by omega), show 32 * L.length / 32 = L.length by omega, parseK_recs h _ (Nat.le_refl _), List.take_length]
theorem parseK_good {b : List Int} (hb : ∀ z ∈ b, 0 <= z /\ z <= 255) : ∀ k l, 32 * k <= b.length -> parseK b k = some l -> GoodL l /\ l.length = k
  | 0, l, _, h => by
    cases h
    exact ⟨⟨fun r hr => (by cases hr), List.nodup_nil⟩, rfl⟩
  | k + 1, l, hk, h => by
    unfold parseK at h
    split at h
    · cases h
    · rename_i l0 h0
      obtain ⟨⟨g1, g2⟩, g3⟩ := parseK_good hb k l0 (by omega) h0
      split at h
      · cases h
      · rename_i r hr
        split at h
        · cases h
        · rename_i hno
          cases h
          have hr' := readB_good (fun z hz => hb z (List.mem_of_mem_drop (List.mem_of_mem_take hz))) (by rw [List.length_take, List.length_drop]; omega) hr
          refine ⟨⟨fun q hq => ?_, ?_⟩, by rw [List.length_append, g3]; rfl⟩
          · rcases List.mem_append.1 hq with hq | hq
            · exact g1 q hq
            · rw [List.mem_singleton.1 hq]; exact hr'
          · rw [List.map_append, List.map_cons, List.map_nil]
            refine List.nodup_append.2 ⟨g2, by simp, ?_⟩
            intro a ha c hc e
            rw [List.mem_singleton.1 hc] at e
            subst e
            obtain ⟨q, hq, e2⟩ := List.mem_map.1 ha
            exact hno (List.any_eq_true.2 ⟨q, hq, by simp [e2]⟩)
def Pl (L : List Rec) (s : List UInt8) (x : Int) : Prop := (∃ (i : Nat) (r : Rec), x = (i : Int) /\ L[i]? = some r /\ r.s = s) \/ (x = -1 /\ ∀ r ∈ L, r.s ≠ s)
theorem Pl.at {L : List Rec} {s : List UInt8} {x : Int} (h : Pl L s x) (hn : (L.map Rec.s).Nodup) {i : Nat} {r : Rec} (hr : L[i]? = some r) (hs : r.s = s) : x = (i : Int) := by
  rcases h with ⟨j, q, rfl, hq, hqs⟩ | ⟨-, hno⟩
  · obtain ⟨hi, ei⟩ := List.getElem?_eq_some_iff.1 hr
    obtain ⟨hj, ej⟩ := List.getElem?_eq_some_iff.1 hq
    rcases Nat.lt_trichotomy i j with hlt | rfl | hlt
    · have := List.pairwise_iff_getElem.1 hn i j (by simpa using hi) (by simpa using hj) hlt
      rw [List.getElem_map, List.getElem_map, ei, ej, hs, hqs] at this
      exact absurd rfl this
    · rfl
    · have := List.pairwise_iff_getElem.1 hn j i (by simpa using hj) (by simpa using hi) hlt
      rw [List.getElem_map, List.getElem_map, ei, ej, hs, hqs] at this
      exact absurd rfl this
  · exact absurd hs (hno r (List.mem_of_getElem? hr))
theorem Pl.none {L : List Rec} {s : List UInt8} {x : Int} (h : Pl L s x) (hno : ∀ r ∈ L, r.s ≠ s) : x = -1 := by
  rcases h with ⟨j, q, rfl, hq, hqs⟩ | ⟨h, -⟩
  · exact absurd hqs (hno q (List.mem_of_getElem? hq))
  · exact h
def recCells : List Rec -> List Value
  | [] => []
  | r :: l => .string (mkB r.s) :: .int .i64 (r.id : Nat) :: recCells l
theorem recCells_append : ∀ a b, recCells (a ++ b) = recCells a ++ recCells b
  | [], _ => rfl
  | p :: r, b => by simp [recCells, recCells_append r b]
theorem recCells_get : ∀ (L : List Rec) (k : Nat) (r : Rec), L[k]? = some r -> (recCells L)[k * 2]? = some (.string (mkB r.s)) /\ (recCells L)[k * 2 + 1]? = some (.int .i64 (r.id : Nat))
  | [], k, p, h => by simp at h
  | q :: r, 0, p, h => by simp at h; subst h; exact ⟨rfl, rfl⟩
  | q :: r, k + 1, p, h => by
    have := recCells_get r k p (by simpa using h)
    rw [show (k + 1) * 2 = k * 2 + 2 by omega]
    simpa [recCells] using this
theorem recCells_one : ∀ (L : List Rec), ∀ u ∈ recCells L, u.oneCell' = true
  | [], u, hu => by cases hu
  | q :: r, u, hu => by
    rcases List.mem_cons.1 hu with rfl | hu
    · rfl
    · rcases List.mem_cons.1 hu with rfl | hu
      · rfl
      · exact recCells_one r u hu
def RecsAt (w : World) (v : Value) (L : List Rec) : Prop :=
  ∃ a cap, v = .slice a L.length cap /\ (L ≠ [] -> ∃ b off, a = some ⟨b, off, none⟩ /\ b < w.heap.size /\ ∀ k r, L[k]? = some r -> w.cell? ⟨b, off + k * 2, none⟩ = some (.string (mkB r.s)) /\ w.cell? ⟨b, off + k * 2 + 1, none⟩ = some (.int .i64 (r.id : Nat)))
theorem RecsAt.below {w w' : World} {v : Value} {L : List Rec} (h : RecsAt w v L) (hb : Below w.heap.size w w') : RecsAt w' v L := by
  obtain ⟨a, cap, hv, hc⟩ := h
  refine ⟨a, cap, hv, fun hne => ?_⟩
  obtain ⟨b, off, ha, hlt, hk⟩ := hc hne
  refine ⟨b, off, ha, Nat.lt_of_lt_of_le hlt hb.size, fun k r hr => ?_⟩
  obtain ⟨h1, h2⟩ := hk k r hr
  exact ⟨(hb.cell (p := ⟨b, off + k * 2, none⟩) hlt).trans h1, (hb.cell (p := ⟨b, off + k * 2 + 1, none⟩) hlt).trans h2⟩
structure RecOwn (T : TypeId) (base : Nat) (w : World) (v : Value) (L : List Rec) : Prop where
  row : w.ownsRow base T 2 v L.length (recCells L)
section
variable {T : TypeId} {base : Nat} {w w' : World} {v : Value} {L : List Rec}
theorem RecOwn.nil (T : TypeId) (base : Nat) (w : World) : RecOwn T base w (.slice none 0 0) [] := ⟨World.ownsRow_nil w base _ _⟩
theorem RecOwn.keep {bs : List Nat} (h : RecOwn T base w v L) (ha : Apart bs w w') (hb : ∀ k ∈ bs, k < base) : RecOwn T base w' v L := by
  refine ⟨⟨h.row.1, ?_⟩⟩
  rcases h.row.2 with h2 | ⟨g', cap', cur, rfl, h1, hh, rest⟩
  · exact .inl h2
  · exact .inr ⟨g', cap', cur, rfl, h1, (ha.block g' (by rcases Nat.lt_or_ge g' w.heap.size with h | h; exact h; rw [Array.getElem?_eq_none h] at hh; cases hh) (fun hm => by have := hb _ hm; omega)).trans hh, rest⟩
theorem RecOwn.below (h : RecOwn T base w v L) (hb : Below w.heap.size w w') : RecOwn T base w' v L := h.keep (Apart.of_below (bs := []) hb) (by simp)
theorem RecOwn.at (h : RecOwn T base w v L) : RecsAt w v L := by
  rcases h.row.2 with ⟨rfl, h0⟩ | ⟨g', cap', cur, rfl, h1, hh, h2, h3, h4, h5⟩
  · exact ⟨none, 0, by rw [h0], fun hne => absurd (List.length_eq_zero_iff.1 h0) hne⟩
  · refine ⟨_, cap', rfl, fun hne => ⟨g', 0, rfl, ?_, fun k r hr => ?_⟩⟩
    · rcases Nat.lt_or_ge g' w.heap.size with h | h
      · exact h
      · rw [Array.getElem?_eq_none h] at hh; cases hh
    · obtain ⟨c0, c1⟩ := recCells_get L k r hr
      have hk : k < L.length := (List.getElem?_eq_some_iff.1 hr).1
      have hc : ∀ j, j < L.length * 2 -> w.cell? ⟨g', j, none⟩ = (recCells L)[j]? := fun j hj => h.row.cellAt j hj
      exact ⟨by rw [Nat.zero_add, hc _ (by omega)]; exact c0, by rw [Nat.zero_add, hc _ (by omega)]; exact c1⟩
theorem RecOwn.form (h : RecOwn T base w v L) : ∃ a cap, v = .slice a L.length cap := by
  obtain ⟨a, cap, hv, -⟩ := h.at
  exact ⟨a, cap, hv⟩
theorem RecOwn.push {ST : TypeId} (h : RecOwn T base w v L) (hu : Tryz.prog.underlying ST = some (.slice T)) (hi0 : (Tryz.prog.info? T).map (fun i => (i.zero, i.size, i.bytes)) = some (some (.agg #[.string ⟨#[]⟩, .int .i64 0]), 2, 24)) (r : Rec) (a : Addr) (c : Nat) (hc0 : w.cell? a = some (.string (mkB r.s))) (hc1 : w.cell? (a.add 1) = some (.int .i64 (r.id : Nat))) (hn : L.length <= 1000) (hbase : base <= w.heap.size) (ty : TypeId) :
    ∃ v' w', (Builtin.append_ #[ST, ST] ty #[v, .slice (some a) 1 c]).run Tryz.prog w = .ok v' w' /\ RecOwn T base w' v' (L ++ [r]) /\ Below base w w' := by
  obtain ⟨i0, hi, hz0, hz1, hz2⟩ := info_parts3 hi0
  obtain ⟨v', w', hrun, hown, hgrow, -⟩ := run_append_own (P := Tryz.prog) w base ST ty T i0 (.agg #[.string ⟨#[]⟩, .int .i64 0]) 2 24 hu hi hz0 hz1 hz2 (by simp [Value.cells]) (by decide)
    v L.length _ h.row a 1 c (recCells [r]) rfl (fun j u hu => by
      match j with
      | 0 =>
        have : a.add 0 = a := by simp [Addr.add]
        rw [this, hc0]; simpa [recCells] using hu
      | 1 => rw [hc1]; simpa [recCells] using hu
      | j + 2 => simp [recCells] at hu) (recCells_one [r]) (by unfold maxLen; omega) (by omega) hbase
  refine ⟨v', w', hrun, ⟨by rw [List.length_append, recCells_append]; exact hown⟩, (Below.refl base w).grown hgrow hbase (fun k hk => (h.row.lt k hk).1)⟩
end
abbrev recV (s : List UInt8) (n : Int) : Value := .agg #[.string (mkB s), .int .i64 n]
theorem place1_calls (x y : List UInt8) (n : Int) (p : Nat) (w : World) (hc : w.cell? ⟨p, 0, none⟩ = some (.string (mkB y))) :
    Calls Tryz.prog 262 #[recV x n, .pointer (some ⟨p, 0, none⟩)] w fun e w' => e = .returned (.bool (decide (x = y))) /\ Below w.heap.size w w' := by
  have hlt := lt_of_cell hc
  obtain ⟨w1, hw1, hB1, c0⟩ : ∃ w1, w.alloc (.cells #[.string (mkB x), .int .i64 n] 209) = w1 /\ Below w.heap.size w w1 /\ w1.cell? ⟨w.heap.size, 0, none⟩ = some (.string (mkB x)) := ⟨_, rfl, (Below.refl _ _).alloc (Nat.le_refl _) _, by simp⟩
  have hc1 := (hB1.cell (p := ⟨p, 0, none⟩) hlt).trans hc
  have hE := hidden hB1
  have hq := hidden (mk_beq x y)
  clear hc hB1
  go_enter Tryz.func262, Tryz.ntmps262
  go_wp2
  go_ret
  exact ⟨by simp [hq.out], hE.out⟩
theorem index_calls {w : World} {v : Value} {L : List Rec} (h : RecsAt w v L) (hl : L.length <= 1000) (y : List UInt8) (p : Nat) (hc : w.cell? ⟨p, 0, none⟩ = some (.string (mkB y))) :
    Calls Tryz.prog 261 #[v, .func (.func 262) #[] #[.pointer (some ⟨p, 0, none⟩)]] w fun e w' => ∃ x, e = .returned (.int .i64 x) /\ Pl L y x /\ Below w.heap.size w w' := by
  obtain ⟨a, cap, rfl, hcs⟩ := h
  have hp := lt_of_cell hc
  have hent : Enters Tryz.prog 262 := enters_of Tryz.func262 (by kernel_rfl) rfl
  replace hcs := hidden hcs
  replace hc := hidden hc
  go_enter Tryz.func261, Tryz.ntmps261
  go_wp2_with fail
  go_loopg [8] (L.length + 1) (fun gk q wr => ∃ j : Nat, j <= L.length /\ gk = L.length + 1 - j /\ q = .int .i64 j /\ Hid ((∀ i r, i < j -> L[i]? = some r -> r.s ≠ y) /\ Below w.heap.size w wr))
  case atStart => exact ⟨0, by omega, rfl, rfl, hidden ⟨fun i r hi => by omega, Below.refl _ _⟩⟩
  case round =>
    obtain ⟨j, hj, hgk, rfl, hI⟩ := hrel
    replace hgk := hidden hgk
    by_cases hlt : j < L.length
    · obtain ⟨b, off, rfl, hb, hk⟩ := hcs.out (by rintro rfl; simp at hlt)
      obtain ⟨r, hr⟩ : ∃ r, L[j]? = some r := ⟨_, List.getElem?_eq_getElem hlt⟩
      obtain ⟨c0, c1⟩ := hk j r hr
      replace c0 := (hI.out.2.cell (p := ⟨b, off + j * 2, none⟩) hb).trans c0
      replace c1 := (hI.out.2.cell (p := ⟨b, off + j * 2 + 1, none⟩) hb).trans c1
      have kP := hidden (place1_calls r.s y (r.id : Nat) p wr ((hI.out.2.cell (p := ⟨p, 0, none⟩) hp).trans hc.out))
      replace hr := hidden hr
      clear hk
      go_wp2_with fail
      refine (kP.out).mono ?_
      rintro ev w2 ⟨rfl, hB2⟩
      have hE := hidden (hI.out.2.trans (hB2.mono hI.out.2.size))
      clear kP hB2
      by_cases e : r.s = y
      · replace e := hidden e
        have hd : decide (r.s = y) = true := decide_eq_true e.out
        go_wp2
        go_ret
        exact ⟨_, rfl, Or.inl ⟨j, r, rfl, hr.out, e.out⟩, hE.out⟩
      · have hd : decide (r.s = y) = false := decide_eq_false e
        replace e := hidden e
        go_wp2
        go_roundg (L.length + 1 - (j + 1))
        case measure => rw [hgk.out]; omega
        case rel =>
          refine ⟨j + 1, hlt, rfl, by go_num, hidden ⟨fun i q hi hq => ?_, hE.out⟩⟩
          by_cases e1 : i = j
          · subst e1; rw [hr.out] at hq; cases hq; exact e.out
          · exact hI.out.1 i q (by omega) hq
    · obtain rfl : j = L.length := by omega
      go_wp2
      go_ret
      refine ⟨_, rfl, Or.inr ⟨rfl, fun r hr => ?_⟩, hI.out.2⟩
      obtain ⟨i, hi⟩ := List.getElem?_of_mem hr
      exact hI.out.1 i r (List.getElem?_eq_some_iff.1 hi).1 hi
theorem place_calls {w : World} {v : Value} {L : List Rec} (h : RecsAt w v L) (hl : L.length <= 1000) (y : List UInt8) :
    Calls Tryz.prog 212 #[v, .string (mkB y)] w fun e w' => ∃ x, e = .returned (.int .i64 x) /\ Pl L y x /\ Below w.heap.size w w' := by
  have hmf : ∀ (fn : Fn) (first cap : Array Value) (w : World), (Instr.makeFunc fn first cap).run Tryz.prog w = .ok (.func fn first cap) w := fun _ _ _ _ => rfl
  obtain ⟨w1, hw1, hB1, c0⟩ : ∃ w1, w.alloc (.cells #[.string (mkB y)] 9) = w1 /\ Below w.heap.size w w1 /\ w1.cell? ⟨w.heap.size, 0, none⟩ = some (.string (mkB y)) := ⟨_, rfl, (Below.refl _ _).alloc (Nat.le_refl _) _, by simp⟩
  have kI := hidden (index_calls (h.below hB1) hl y w.heap.size c0)
  obtain ⟨a, cap, rfl, -⟩ := h
  replace hB1 := hidden hB1
  clear c0
  go_enter Tryz.func212, Tryz.ntmps212
  go_wp2_with fail
  refine (kI.out).mono ?_
  rintro ev w2 ⟨x, rfl, hP, hB2⟩
  have hE := hidden (And.intro hP (hB1.out.trans (hB2.mono hB1.out.size)))
  clear kI hP hB2
  go_wp2
  go_ret
  exact ⟨x, rfl, hE.out⟩
theorem dnought1_calls (z : Int) (w : World) : Calls Tryz.prog 320 #[.int .u8 z] w fun e w' => e = .returned (.bool (!(z == 0))) /\ w' = w := by
  go_enter Tryz.func320, Tryz.ntmps320
  go_wp2
  go_ret
  exact ⟨by simp [bne], rfl⟩
theorem indexB_calls {w : World} {v : Value} {zs : List Int} (h : BytesAt w v zs) (hl : zs.length <= 1000) :
    Calls Tryz.prog 309 #[v, .func (.func 320) #[] #[]] w fun e w' => ∃ x : Int, e = .returned (.int .i64 x) /\ decide (0 <= x) = !(zs.all fun z => z == 0) /\ w' = w := by
  obtain ⟨a, cap, rfl, hr, hm, hn, hcs⟩ := h
  replace hcs := hidden hcs
  clear hr hm hn
  go_enter Tryz.func309, Tryz.ntmps309
  go_wp2_with fail
  go_loopg [8] (zs.length + 1) (fun gk q wr => ∃ j : Nat, j <= zs.length /\ gk = zs.length + 1 - j /\ q = .int .i64 j /\ wr = w /\ Hid (∀ i z, i < j -> zs[i]? = some z -> z = 0))
  case atStart => exact ⟨0, by omega, rfl, rfl, rfl, hidden (fun i r hi => by omega)⟩
  case round =>
    obtain ⟨j, hj, hgk, rfl, rfl, hI⟩ := hrel
    replace hgk := hidden hgk
    by_cases hlt : j < zs.length
    · obtain ⟨b, off, rfl, hb, hk⟩ := hcs.out (by rintro rfl; simp at hlt)
      have hz : zs[j]? = some (zs.getD j 0) := by rw [List.getD_eq_getElem?_getD, List.getElem?_eq_getElem hlt]; rfl
      have c0 := hk j hlt
      generalize zs.getD j 0 = z at hz c0
      have kP := hidden (dnought1_calls z wr)
      replace hz := hidden hz
      clear hk
      go_wp2_with fail
      refine (kP.out).mono ?_
      rintro ev w2 ⟨rfl, hw2⟩
      subst w2
      clear kP
      cases e : (z == 0) with
      | false =>
        go_wp2
        go_ret
        refine ⟨_, rfl, ?_, rfl⟩
        have : zs.all (fun z => z == 0) = false := List.all_eq_false.2 ⟨z, List.mem_of_getElem? hz.out, by simp [e]⟩
        rw [this]
        simp
      | true =>
        go_wp2
        go_roundg (zs.length + 1 - (j + 1))
        case measure => rw [hgk.out]; omega
        case rel =>
          refine ⟨j + 1, hlt, rfl, by go_num, rfl, hidden (fun i q hi hq => ?_)⟩
          by_cases e1 : i = j
          · subst e1; rw [hz.out] at hq; cases hq; exact eq_of_beq e
          · exact hI.out i q (by omega) hq
    · obtain rfl : j = zs.length := by omega
      go_wp2
      go_ret
      refine ⟨_, rfl, ?_, rfl⟩
      have : zs.all (fun z => z == 0) = true := List.all_eq_true.2 (fun z hz => by
        obtain ⟨i, hi⟩ := List.getElem?_of_mem hz
        simp [hI.out i z (List.getElem?_eq_some_iff.1 hi).1 hi])
      rw [this]
      rfl
theorem contains_calls {w : World} {v : Value} {zs : List Int} (h : BytesAt w v zs) (hl : zs.length <= 1000) :
    Calls Tryz.prog 268 #[v, .func (.func 320) #[] #[]] w fun e w' => e = .returned (.bool (!(zs.all fun z => z == 0))) /\ w' = w := by
  have kI := hidden (indexB_calls h hl)
  obtain ⟨a, cap, rfl, -⟩ := h
  go_enter Tryz.func268, Tryz.ntmps268
  go_wp2_with fail
  refine (kI.out).mono ?_
  rintro ev w2 ⟨x, rfl, hx, hw2⟩
  subst w2
  replace hx := hidden hx
  go_wp2
  go_ret
  exact ⟨by rw [<- hx.out]; rfl, rfl⟩
theorem dnoughts_calls {w : World} {v : Value} {zs : List Int} (h : BytesAt w v zs) (hl : zs.length <= 1000) :
    Calls Tryz.prog 296 #[v] w fun e w' => e = .returned (.bool (zs.all fun z => z == 0)) /\ w' = w := by
  have kI := hidden (contains_calls h hl)
  obtain ⟨a, cap, rfl, -⟩ := h
  generalize (zs.all fun z => z == 0) = B at *
  go_enter Tryz.func296, Tryz.ntmps296
  go_wp2_with fail
  refine (kI.out).mono ?_
  rintro ev w2 ⟨rfl, hw2⟩
  subst w2
  go_wp2
  go_ret
  exact ⟨by simp, rfl⟩
end Go.Proofs.YtpofmiecjkghgaaGreatDoor
