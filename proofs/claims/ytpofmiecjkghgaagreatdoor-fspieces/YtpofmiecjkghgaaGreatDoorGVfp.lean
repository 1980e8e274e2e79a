/- What the inodes are, and what put makes of them. -/
import Derived.Test.YtpofmiecjkghgaaGreatDoorGVdp
import Derived.Test.YtpofmiecjkghgaaGreatDoorGCbp
import Derived.Lib.ConvBytes
import Derived.Lib.SlBytesConst
namespace Go.Proofs.YtpofmiecjkghgaaGreatDoor
open Go.RowKit Go.Extern.Stop Go.Stop Go.Extern Go.Maps Go.Sort Go.Shelf
set_option maxRecDepth 100000
set_option maxHeartbeats 2000000
structure Ino (E : TE) (mem : Nat -> Int) (M : Chg) (N : Nat -> Nd) (D : Nat -> List Int) : Prop where
  says : E.Says mem M N
  nodup : ∀ id, 1 <= id -> id <= E.tn -> (N id).list.Nodup
  mine : ∀ id, 1 <= id -> id <= E.tn -> ∀ z ∈ (N id).list, ∃ i, i < E.k /\ z = E.fr + (i : Int) /\ bitM mem M E.ma i = true
  apart : ∀ a b, 1 <= a -> a <= E.tn -> 1 <= b -> b <= E.tn -> a ≠ b -> ∀ z ∈ (N a).list, z ∉ (N b).list
  rest : ∀ id, 1 <= id -> id <= E.tn -> 9 < (N id).list.length -> nowM mem M ((N id).list.getD 8 0).toNat = restL (N id).list
  data : ∀ id, 1 <= id -> id <= E.tn -> bytesF (nowM mem M) (N id).list 0 (N id).size = D id
structure Inw (E : TE) (mem : Nat -> Int) (M : Chg) (N : Nat -> Nd) : Prop where
  opn : ∀ i, i < E.ku -> bitM mem M E.ma i = false -> E.U i
  own : ∀ id, 1 <= id -> id <= E.tn -> E.W id -> ∀ z ∈ (N id).list, ∃ i, (i < E.k /\ E.U i) /\ z = E.fr + (i : Int)
  cov : ∀ i, i < E.k -> bitM mem M E.ma i = true -> ∃ id, 1 <= id /\ id <= E.tn /\ ((E.fr + i : Nat) : Int) ∈ (N id).list
def upd {α : Type} (f : Nat -> α) (i : Nat) (x : α) : Nat -> α := fun j => if j = i then x else f j
theorem upd_same {α : Type} (f : Nat -> α) (i : Nat) (x : α) : upd f i x i = x := if_pos rfl
theorem upd_other {α : Type} (f : Nat -> α) {i j : Nat} (x : α) (h : j ≠ i) : upd f i x j = f j := if_neg h
def putD (d zs : List Int) (at_ S2 : Nat) : List Int := (List.range S2).map fun j => if at_ <= j /\ j < at_ + zs.length then zs.getD (j - at_) 0 else d.getD j 0
theorem blk_ne9 (s : Int) : blk s ≠ 9 := by unfold blk; split <;> (try split) <;> (try split) <;> omega
theorem bytesF_congr {F G : Nat -> List Int} {ks ls : List Int} {n : Nat} (h : ∀ j, j < n -> byteF F ks j = byteF G ls j) : bytesF F ks 0 n = bytesF G ls 0 n := by
  unfold bytesF
  apply List.map_congr_left
  intro i hi
  simp only [Nat.zero_add]
  exact h i (List.mem_range.1 hi)
theorem bytesF_get {F : Nat -> List Int} {ks : List Int} {n j : Nat} (h : j < n) : (bytesF F ks 0 n).getD j 0 = byteF F ks j := by
  unfold bytesF
  rw [List.getD_eq_getElem?_getD, List.getElem?_map, List.getElem?_range h]
  simp
section
variable {E : TE} {mem : Nat -> Int} {M : Chg} {N : Nat -> Nd} {D : Nat -> List Int}
theorem Ino.put (h : Ino E mem M N D) (ok : E.Ok) {M' : Chg} {id : Nat} (h1 : 1 <= id) (h2 : id <= E.tn) (hk : (N id).kind = 1 \/ (N id).kind = 2) {S2 at_ n : Nat} {l zs : List Int} (hn : l.length = n) (hgr : growb (N id).size S2 = n) (hat : at_ <= (N id).size) (hmx : max (N id).size (at_ + zs.length) = S2) (hS2 : S2 <= 4000)
    (he : PutEff E mem M M' (E.ta + id - 1) (N id).kind (N id).size S2 (N id).list l zs at_) :
    Ino E mem M' (upd N id ⟨(N id).kind, S2, (N id).list ++ l⟩) (upd D id (putD (D id) zs at_ S2)) /\ freeN (bitM mem M' E.ma) E.k + n = freeN (bitM mem M E.ma) E.k /\ freeN (bitM mem M' E.ma) E.ku + n = freeN (bitM mem M E.ma) E.ku /\ (∀ i, i < E.k -> bitM mem M' E.ma i = (bitM mem M E.ma i || decide (((E.fr + i : Nat) : Int) ∈ l))) /\ ∀ z ∈ l, ∃ i, i < E.ku /\ z = E.fr + (i : Int) /\ bitM mem M E.ma i = false := by
  obtain ⟨M3, M6, hT, hL, hset⟩ := he
  have hxo := (h.says id h1 h2).1
  have hlen0 := hxo.2.2.1
  have hsz0 := hxo.2.1
  have hr1 := blk_range ((N id).size : Int)
  have hge : blk ((N id).size : Int) <= blk (S2 : Int) := by unfold blk; split <;> split <;> (try split) <;> (try split) <;> (try split) <;> (try split) <;> omega
  have hlenA : ((((N id).list ++ l).length : Nat) : Int) = blk S2 := by
    rw [List.length_append, hn]
    unfold growb at hgr
    omega
  have hl0 : (N id).size = S2 -> l = [] := fun e => by
    apply List.length_eq_zero_iff.1
    rw [hn]
    rw [<- e] at hgr
    unfold growb at hgr
    omega
  generalize hks : (N id).list = ks at *
  generalize hSz : (N id).size = S at *
  generalize hKd : (N id).kind = K at *
  -- the numbers are blocks of the Map's
  have hmine0 : ∀ z ∈ ks, ∃ i, i < E.k /\ z = E.fr + (i : Int) /\ bitM mem M E.ma i = true := by
    intro z hz; rw [<- hks] at hz; exact h.mine id h1 h2 z hz
  have hallA : ∀ z ∈ ks ++ l, ∃ i, i < E.k /\ z = E.fr + (i : Int) := fun z hz => by
    rcases List.mem_append.1 hz with hz | hz
    · obtain ⟨i, q1, q2, -⟩ := hmine0 z hz; exact ⟨i, q1, q2⟩
    · obtain ⟨i, q1, q2, -⟩ := hT.mine z hz; exact ⟨i, q1, q2⟩
  have hndk : ks.Nodup := by have := h.nodup id h1 h2; rw [hks] at this; exact this
  have hndA : (ks ++ l).Nodup := List.nodup_append.2 ⟨hndk, hT.nodup, fun a ha b hb e => by
    obtain ⟨i, i1, i2, i3⟩ := hmine0 a ha
    obtain ⟨j, j1, j2, j3⟩ := hT.mine b hb
    obtain rfl : i = j := by omega
    rw [i3] at j3
    cases j3⟩
  have hrecD : ∀ z ∈ ks ++ l, z.toNat ≠ E.ta + id - 1 := fun z hz => by
    obtain ⟨i, q1, q2⟩ := hallA z hz
    have := ok.dr i id q1 h1 h2
    omega
  -- what is kept from M to M'
  have keep : ∀ no, (∀ i, i < E.k -> no ≠ homeA E.ma i) -> no ≠ E.ta + id - 1 -> (∀ z ∈ ks ++ l, no ≠ z.toNat) -> nowM mem M' no = nowM mem M no := fun no q1 q2 q3 => by
    have e6 : nowM mem M6 no = nowM mem M no := by
      rw [hL.rest no (fun q hq => q3 _ (getD_mem hq)), hT.same no q1]
    rcases hset with ⟨-, rfl⟩ | ⟨-, hs⟩
    · exact e6
    · rw [hs no, if_neg q2, if_neg (fun hh => q3 _ (getD_mem (by omega)) hh.2.2), e6]
  have hbit : ∀ i, i < E.k -> bitM mem M' E.ma i = bitM mem M3 E.ma i := fun i hi => by
    have e6 : nowM mem M6 (homeA E.ma i) = nowM mem M3 (homeA E.ma i) := hL.rest _ (fun q hq => by
      obtain ⟨j, q1, q2⟩ := hallA _ (getD_mem hq)
      have := ok.hd i j hi q1
      omega)
    apply bit_same
    rcases hset with ⟨-, rfl⟩ | ⟨-, hs⟩
    · exact e6
    · rw [hs, if_neg (ok.hr i id hi h1 h2), if_neg (fun hh => by
        obtain ⟨j, q1, q2⟩ := hallA _ (getD_mem (show 8 < (ks ++ l).length by omega))
        have := ok.hd i j hi q1
        omega), e6]
  have hrec0 : nowM mem M (E.ta + id - 1) = recL K S ks := by
    have := (h.says id h1 h2).2
    rw [hks, hSz, hKd] at this
    exact this
  have hrecH : ∀ i, i < E.k -> E.ta + id - 1 ≠ homeA E.ma i := fun i hi e => ok.hr i id hi h1 h2 e.symm
  have hrec6 : nowM mem M6 (E.ta + id - 1) = nowM mem M (E.ta + id - 1) := by
    rw [hL.rest _ (fun q hq e => hrecD _ (getD_mem hq) e.symm), hT.same _ hrecH]
  have hother : ∀ b, 1 <= b -> b <= E.tn -> b ≠ id -> ∀ z ∈ (N b).list, nowM mem M' z.toNat = nowM mem M z.toNat := fun b b1 b2 hb z hz => by
    obtain ⟨i, i1, i2, i3⟩ := h.mine b b1 b2 z hz
    refine keep _ (fun j hj e => ok.hd j i hj i1 (by omega)) (fun e => ok.dr i id i1 h1 h2 (by omega)) (fun y hy e => ?_)
    rcases List.mem_append.1 hy with hy | hy
    · obtain ⟨j, j1, j2, -⟩ := hmine0 y hy
      have : z = y := by omega
      subst this
      exact h.apart b id b1 b2 h1 h2 hb z hz (by rw [hks]; exact hy)
    · obtain ⟨j, j1, j2, j3⟩ := hT.mine y hy
      obtain rfl : i = j := by omega
      rw [i3] at j3
      cases j3
  have hdatH : ∀ z ∈ ks ++ l, ∀ i, i < E.k -> z.toNat ≠ homeA E.ma i := fun z hz i hi e => by
    obtain ⟨j, j1, j2⟩ := hallA z hz
    exact ok.hd i j hi j1 (by omega)
  have hpos : ∀ z ∈ ks ++ l, 0 <= z := fun z hz => by obtain ⟨j, j1, j2⟩ := hallA z hz; omega
  have h8no : ∀ (L : List Int), L.Nodup -> (∀ z ∈ L, 0 <= z) -> 8 < L.length -> ∀ q, idxN q < L.length -> (L.getD 8 0).toNat ≠ (L.getD (idxN q) 0).toNat := fun L hL1 hL2 hL3 q hq e => by
    have p1 := hL2 _ (getD_mem hL3)
    have p2 := hL2 _ (getD_mem hq)
    exact idxN_ne q (getD_inj hL1 hL3 hq (by omega)).symm
  have hrest6 : ∀ (h8 : 8 < (ks ++ l).length), l = [] -> nowM mem M6 ((ks ++ l).getD 8 0).toNat = nowM mem M (ks.getD 8 0).toNat := fun h8 e => by
    subst e
    rw [hL.rest _ (h8no _ hndA hpos h8), hT.same _ (hdatH _ (getD_mem h8)), List.append_nil]
  have hbyte6 : ∀ j, idxN (j / 128) < (ks ++ l).length -> byteF (nowM mem M') (ks ++ l) j = byteF (nowM mem M6) (ks ++ l) j := fun j hj => by
    unfold byteF
    congr 1
    rcases hset with ⟨-, rfl⟩ | ⟨-, hs⟩
    · rfl
    · rw [hs, if_neg (hrecD _ (getD_mem hj)), if_neg (fun hh => h8no _ hndA hpos (by omega) _ hj hh.2.2.symm)]
  refine ⟨⟨fun b b1 b2 => ?_, fun b b1 b2 => ?_, fun b b1 b2 z hz => ?_, fun a b a1 a2 b1 b2 hab z hz => ?_, fun b b1 b2 h9 => ?_, fun b b1 b2 => ?_⟩, ?_⟩
  · by_cases hb : b = id
    · subst hb
      rw [upd_same]
      refine ⟨⟨Or.inr hk, hS2, hlenA, fun z hz => ?_⟩, ?_⟩
      · obtain ⟨i, i1, i2⟩ := hallA z hz
        have := ok.fr
        omega
      · rcases hset with ⟨rfl, rfl⟩ | ⟨-, hs⟩
        · rw [hrec6, hrec0, hl0 rfl, List.append_nil]
        · rw [hs, if_pos rfl]
    · rw [upd_other _ _ hb]
      refine ⟨(h.says b b1 b2).1, ?_⟩
      rw [keep _ (fun i hi e => ok.hr i b hi b1 b2 e.symm) (by omega) (fun z hz e => by
        obtain ⟨i, i1, i2⟩ := hallA z hz
        exact ok.dr i b i1 b1 b2 (by omega))]
      exact (h.says b b1 b2).2
  · by_cases hb : b = id
    · subst hb; rw [upd_same]; exact hndA
    · rw [upd_other _ _ hb]; exact h.nodup b b1 b2
  · by_cases hb : b = id
    · subst hb
      rw [upd_same] at hz
      rcases List.mem_append.1 hz with hz | hz
      · obtain ⟨i, i1, i2, i3⟩ := hmine0 z hz
        exact ⟨i, i1, i2, by rw [hbit i i1, hT.bits i i1, i3]; rfl⟩
      · obtain ⟨i, i1, i2, i3⟩ := hT.mine z hz
        refine ⟨i, i1, i2, ?_⟩
        rw [hbit i i1, hT.bits i i1, decide_eq_true (by rw [show ((E.fr + i : Nat) : Int) = z by omega]; exact hz)]
        simp
    · rw [upd_other _ _ hb] at hz
      obtain ⟨i, i1, i2, i3⟩ := h.mine b b1 b2 z hz
      exact ⟨i, i1, i2, by rw [hbit i i1, hT.bits i i1, i3]; rfl⟩
  · have fresh : ∀ b, 1 <= b -> b <= E.tn -> ∀ z ∈ (N b).list, z ∉ l := fun b b1 b2 z hz hm => by
      obtain ⟨i, i1, i2, i3⟩ := h.mine b b1 b2 z hz
      obtain ⟨j, j1, j2, j3⟩ := hT.mine z hm
      obtain rfl : i = j := by omega
      rw [i3] at j3
      cases j3
    by_cases ha : a = id
    · subst ha
      rw [upd_same] at hz
      rw [upd_other _ _ (Ne.symm hab)]
      intro hm
      rcases List.mem_append.1 hz with hz | hz
      · exact h.apart a b a1 a2 b1 b2 hab z (by rw [hks]; exact hz) hm
      · exact fresh b b1 b2 z hm hz
    · rw [upd_other _ _ ha] at hz
      by_cases hb : b = id
      · subst hb
        rw [upd_same]
        intro hm
        rcases List.mem_append.1 hm with hm | hm
        · exact h.apart a b a1 a2 b1 b2 hab z hz (by rw [hks]; exact hm)
        · exact fresh a a1 a2 z hz hm
      · rw [upd_other _ _ hb]
        exact h.apart a b a1 a2 b1 b2 hab z hz
  · by_cases hb : b = id
    · subst hb
      rw [upd_same] at h9 ⊢
      simp only at h9 ⊢
      have old : l = [] -> nowM mem M (ks.getD 8 0).toNat = restL (ks ++ l) := fun e => by
        subst e
        rw [List.append_nil] at h9 ⊢
        have := h.rest b b1 b2 (by rw [hks]; exact h9)
        rw [hks] at this
        exact this
      rcases hset with ⟨rfl, rfl⟩ | ⟨-, hs⟩
      · rw [hrest6 (by omega) (hl0 rfl)]
        exact old (hl0 rfl)
      · rw [hs, if_neg (hrecD _ (getD_mem (by omega)))]
        by_cases hq : (ks ++ l).length = ks.length
        · have hle : l = [] := by
            rw [List.length_append] at hq
            exact List.length_eq_zero_iff.1 (by omega)
          rw [if_neg (fun hh => hh.2.1 hq), hrest6 (by omega) hle]
          exact old hle
        · rw [if_pos ⟨h9, hq, rfl⟩]
    · rw [upd_other _ _ hb] at h9 ⊢
      rw [hother b b1 b2 hb _ (getD_mem (by omega))]
      exact h.rest b b1 b2 h9
  · by_cases hb : b = id
    · subst hb
      rw [upd_same, upd_same]
      simp only
      have hD : ∀ j, j < S -> (D b).getD j 0 = byteF (nowM mem M) ks j := fun j hj => by
        have := h.data b b1 b2
        rw [hks, hSz] at this
        rw [<- this, bytesF_get hj]
      unfold putD bytesF
      apply List.map_congr_left
      intro j hj
      have hj2 : j < S2 := List.mem_range.1 hj
      simp only [Nat.zero_add]
      have hix : idxN (j / 128) < (ks ++ l).length := by
        have := idxN_lt hS2 (q := j / 128) (by omega)
        omega
      rw [hbyte6 j hix, hL.bytes j hix]
      by_cases hc : at_ <= j /\ j < at_ + zs.length
      · rw [if_pos hc, if_pos hc]
      · rw [if_neg hc, if_neg hc]
        have hjS : j < S := by omega
        have hixk : idxN (j / 128) < ks.length := by
          have := idxN_lt hsz0 (q := j / 128) (by omega)
          omega
        rw [hD j hjS]
        unfold byteF
        have e1 : (ks ++ l).getD (idxN (j / 128)) 0 = ks.getD (idxN (j / 128)) 0 := by
          rw [List.getD_eq_getElem?_getD, List.getElem?_append_left hixk, <- List.getD_eq_getElem?_getD]
        rw [hT.same _ (hdatH _ (getD_mem hix)), e1]
    · rw [upd_other _ _ hb, upd_other _ _ hb, <- h.data b b1 b2]
      refine bytesF_congr (fun j hj => ?_)
      unfold byteF
      have hbo := (h.says b b1 b2).1
      have hix : idxN (j / 128) < (N b).list.length := by
        have := idxN_lt hbo.2.1 (q := j / 128) (by omega)
        have := hbo.2.2.1
        omega
      rw [hother b b1 b2 hb _ (getD_mem hix)]
  · have hf : freeN (bitM mem M' E.ma) E.k = freeN (bitM mem M3 E.ma) E.k := freeN_congr _ hbit
    have hfu : freeN (bitM mem M' E.ma) E.ku = freeN (bitM mem M3 E.ma) E.ku := freeN_congr _ (fun i hi => hbit i (Nat.lt_of_lt_of_le hi ok.kuk))
    refine ⟨by rw [hf, <- hn]; exact hT.free, by rw [hfu, <- hn]; exact hT.freeu, fun i hi => by rw [hbit i hi]; exact hT.bits i hi, fun z hz => ?_⟩
    obtain ⟨i, i1, i2⟩ := hT.low z hz
    obtain ⟨j, j1, j2, j3⟩ := hT.mine z hz
    obtain rfl : i = j := by omega
    exact ⟨i, i1, i2, j3⟩
theorem Inw.same (hw : Inw E mem M N) (ok : E.Ok) {mem' : Nat -> Int} {M' : Chg} {N' : Nat -> Nd} (hb : ∀ i, i < E.k -> bitM mem' M' E.ma i = bitM mem M E.ma i) (hl : ∀ id, 1 <= id -> id <= E.tn -> (N' id).list = (N id).list) : Inw E mem' M' N' :=
  ⟨fun i hi h => hw.opn i hi (by rw [<- hb i (Nat.lt_of_lt_of_le hi ok.kuk)]; exact h), fun id h1 h2 hR z hz => hw.own id h1 h2 hR z (by rw [<- hl id h1 h2]; exact hz), fun i hi h => by
    obtain ⟨id, h1, h2, h3⟩ := hw.cov i hi (by rw [<- hb i hi]; exact h)
    exact ⟨id, h1, h2, by rw [hl id h1 h2]; exact h3⟩⟩
theorem Inw.put (hw : Inw E mem M N) (ok : E.Ok) {M' : Chg} {id : Nat} (h1 : 1 <= id) (h2 : id <= E.tn) {l : List Int} (hb : ∀ i, i < E.k -> bitM mem M' E.ma i = (bitM mem M E.ma i || decide (((E.fr + i : Nat) : Int) ∈ l))) (hT : ∀ z ∈ l, ∃ i, i < E.ku /\ z = E.fr + (i : Int) /\ bitM mem M E.ma i = false) (kd sz : Nat) :
    Inw E mem M' (upd N id ⟨kd, sz, (N id).list ++ l⟩) := by
  refine ⟨fun i hi h => hw.opn i hi ?_, fun b b1 b2 hR z hz => ?_, fun i hi h => ?_⟩
  · rw [hb i (Nat.lt_of_lt_of_le hi ok.kuk)] at h
    cases hx : bitM mem M E.ma i with
    | true => rw [hx] at h; simp at h
    | false => rfl
  · by_cases hbi : b = id
    · subst hbi
      rw [upd_same] at hz
      rcases List.mem_append.1 hz with hz | hz
      · exact hw.own b b1 b2 hR z hz
      · obtain ⟨i, i1, i2, i3⟩ := hT z hz
        exact ⟨i, ⟨Nat.lt_of_lt_of_le i1 ok.kuk, hw.opn i i1 i3⟩, i2⟩
    · rw [upd_other _ _ hbi] at hz
      exact hw.own b b1 b2 hR z hz
  · rw [hb i hi] at h
    rcases Bool.or_eq_true _ _ ▸ h with h | h
    · obtain ⟨b, b1, b2, b3⟩ := hw.cov i hi h
      refine ⟨b, b1, b2, ?_⟩
      by_cases hbi : b = id
      · subst hbi; rw [upd_same]; exact List.mem_append.2 (Or.inl b3)
      · rw [upd_other _ _ hbi]; exact b3
    · refine ⟨id, h1, h2, ?_⟩
      rw [upd_same]
      exact List.mem_append.2 (Or.inr (of_decide_eq_true h))
theorem Inw.cut (hw : Inw E mem M N) (ok : E.Ok) {M' : Chg} {id : Nat} (h1 : 1 <= id) (h2 : id <= E.tn) (hW : E.W id \/ E.ku = 0) {tl dl : List Int} (hb : ∀ i, i < E.k -> bitM mem M' E.ma i = (bitM mem M E.ma i && !decide (((E.fr + i : Nat) : Int) ∈ dl))) (hall : ∀ z ∈ (N id).list, z ∈ tl \/ z ∈ dl) (ht : ∀ z ∈ tl, z ∈ (N id).list) (hd : ∀ z ∈ dl, z ∈ (N id).list) (kd sz : Nat) :
    Inw E mem M' (upd N id ⟨kd, sz, tl⟩) := by
  refine ⟨fun i hi h => ?_, fun b b1 b2 hRb z hz => ?_, fun i hi h => ?_⟩
  · rw [hb i (Nat.lt_of_lt_of_le hi ok.kuk)] at h
    cases hx : bitM mem M E.ma i with
    | false => exact hw.opn i hi hx
    | true =>
      rw [hx] at h
      have hm : ((E.fr + i : Nat) : Int) ∈ dl := by simpa using h
      obtain ⟨j, j1, j2⟩ := hw.own id h1 h2 (by rcases hW with h | h; exact h; omega) _ (hd _ hm)
      obtain rfl : i = j := by omega
      exact j1.2
  · by_cases hbi : b = id
    · subst hbi
      rw [upd_same] at hz
      exact hw.own b b1 b2 hRb z (ht z hz)
    · rw [upd_other _ _ hbi] at hz
      exact hw.own b b1 b2 hRb z hz
  · rw [hb i hi] at h
    obtain ⟨p1, p2⟩ := Bool.and_eq_true _ _ ▸ h
    obtain ⟨b, b1, b2, b3⟩ := hw.cov i hi p1
    refine ⟨b, b1, b2, ?_⟩
    by_cases hbi : b = id
    · subst hbi
      rw [upd_same]
      rcases hall _ b3 with q | q
      · exact q
      · rw [decide_eq_true q] at p2; cases p2
    · rw [upd_other _ _ hbi]; exact b3
end
section
variable {E : TE} {mem : Nat -> Int} {writes : Int} {M : Chg} {w w' : World} {N : Nat -> Nd} {D : Nat -> List Int}
theorem TE.St.used (h : E.St mem writes M w) (ok : E.Ok) (hI : Ino E mem M N D) (id : Nat) (h1 : 1 <= id) (h2 : id <= E.tn) (hk : (N id).kind ≠ 0) :
    Calls Tryz.prog 189 #[ptr E.tb, .int .i64 id] w fun e w' => ∃ v, e = .returned (.tuple #[nodeV (N id).kind (N id).size v, .nilIface]) /\ Kept w.heap.size w' v ((N id).list.take 9) /\ Below w.heap.size w w' :=
  used_calls (by omega) (fun _ hx => (h.more hx).record ok hI.says id h1 h2)
theorem TE.St.load (h : E.St mem writes M w) (ok : E.Ok) (hI : Ino E mem M N D) (id : Nat) (h1 : 1 <= id) (h2 : id <= E.tn) (hk : (N id).kind ≠ 0) :
    Calls Tryz.prog 174 #[ptr E.tb, .int .i64 id] w fun e w' => ∃ v, e = .returned (.tuple #[nodeV (N id).kind (N id).size v, .nilIface]) /\ Kept w.heap.size w' v (N id).list /\ Below w.heap.size w w' := by
  have hx := (hI.says id h1 h2).1
  have hlen := hx.2.2.1
  have hbr := blk_range ((N id).size : Int)
  have h9 := blk_ne9 ((N id).size : Int)
  have kU := fun (wx : World) (hxx : Below w.heap.size w wx) => (h.more hxx).used ok hI id h1 h2 hk
  have kH := fun (wx : World) (v : Value) (l : List Int) (hxx : Below w.heap.size w wx) (hv : IntsAt wx v l) (hl : l = (N id).list.take 9 \/ l = (N id).list) => had_calls (h.more hxx).c ok.live (h.more hxx).m ok.fit (h.more hxx).t hv (by rcases hl with rfl | rfl <;> (try rw [List.length_take]) <;> omega) (by
    rcases hl with rfl | rfl
    · exact (hI.nodup id h1 h2).sublist (List.take_sublist _ _)
    · exact hI.nodup id h1 h2) (fun z hz => by
    obtain ⟨i, i1, i2⟩ := hI.mine id h1 h2 z (by
      rcases hl with rfl | rfl
      · exact List.mem_of_mem_take hz
      · exact hz)
    exact ⟨i, Nat.lt_of_lt_of_le i1 ok.le, i2⟩)
  by_cases hs : (N id).list.length < 9
  · have ht : (N id).list.take 9 = (N id).list := List.take_of_length_le (by omega)
    rw [ht] at kU
    exact load_short hs kU (fun wx v hxx hv => kH wx v _ hxx hv (Or.inr rfl))
  · have h10 : 9 < (N id).list.length := by omega
    have hm := getD_mem (ks := (N id).list) (i := 8) (by omega)
    obtain ⟨i, i1, i2, -⟩ := hI.mine id h1 h2 _ hm
    have hz : ((((N id).list.getD 8 0).toNat : Nat) : Int) = (N id).list.getD 8 0 := by omega
    refine load_long h10 (by omega) hlen hx.2.2.2 h.t.c0 kU (fun wx v l hxx hv hl => kH wx v l hxx hv hl) (fun wx hxx => ?_)
    have := (h.more hxx).read ok (no := ((N id).list.getD 8 0).toNat) (by rw [show ((N id).list.getD 8 0).toNat = E.fr + i by omega]; exact ok.dlow i i1)
    rw [hz, hI.rest id h1 h2 h10] at this
    exact this
theorem putD_gap (d zs : List Int) (S at_ S2 : Nat) (hd : d.length = S) : putD d (List.replicate (at_ - S) 0 ++ zs) (min at_ S) S2 = putD d zs at_ S2 := by
  unfold putD
  apply List.map_congr_left
  intro j hj
  have hj2 : j < S2 := List.mem_range.1 hj
  rw [List.length_append, List.length_replicate]
  by_cases h1 : at_ <= j /\ j < at_ + zs.length
  · rw [if_pos (by omega), if_pos h1, List.getD_eq_getElem?_getD, List.getElem?_append_right (by rw [List.length_replicate]; omega), List.length_replicate, <- List.getD_eq_getElem?_getD]
    congr 1
    omega
  · rw [if_neg h1]
    by_cases h2 : min at_ S <= j /\ j < min at_ S + (at_ - S + zs.length)
    · rw [if_pos h2, List.getD_eq_getElem?_getD, List.getElem?_append_left (by rw [List.length_replicate]; omega), List.getElem?_replicate, if_pos (by omega), List.getD_eq_getElem?_getD, List.getElem?_eq_none (by omega)]
      rfl
    · rw [if_neg h2]
theorem Ino.Write (h : E.St mem writes M w) (ok : E.Ok) (hI : Ino E mem M N D) (hw : Inw E mem M N) {id : Nat} (h1 : 1 <= id) (h2 : id <= E.tn) (hR : E.R id) (hW : E.W id) (hk : (N id).kind ≠ 0) {at_ n S2 : Nat} {bv : Value} {zs : List Int} (hbv : BytesC E.mb w bv zs) (hz0 : 0 < zs.length) (hat : at_ + zs.length <= 4000) (hmx : max (N id).size (at_ + zs.length) = S2) (hgr : growb (N id).size S2 = n) (hfree : n <= freeN (bitM mem M E.ma) E.ku) :
    Calls Tryz.prog 66 #[ptr E.tb, .int .i64 id, .int .i64 at_, bv] w fun e w' => e = .returned .nilIface /\ ∃ M' N', E.St mem writes M' w' /\ Apart [E.mb] w w' /\ Ino E mem M' N' (upd D id (putD (D id) zs at_ S2)) /\ (∀ j, (N' j).kind = (N j).kind) /\ (∀ j, (N' j).size = if j = id then S2 else (N j).size) /\ freeN (bitM mem M' E.ma) E.k + n = freeN (bitM mem M E.ma) E.k /\ freeN (bitM mem M' E.ma) E.ku + n = freeN (bitM mem M E.ma) E.ku /\ Inw E mem M' N' := by
  have hx := (hI.says id h1 h2).1
  have hk12 : (N id).kind = 1 \/ (N id).kind = 2 := by
    rcases hx.1 with h' | h'
    · exact absurd h'.1 hk
    · exact h'
  have hlts := h.lts
  have hszb := hx.2.1
  have hgb := growb_range ((N id).size : Int) (S2 : Int)
  have htn := ok.tn
  have hd : (D id).length = (N id).size := by rw [<- hI.data id h1 h2, bytesF_len]
  have hlenA : ((((N id).list.length + n : Nat)) : Int) = blk S2 := by
    have := hx.2.2.1
    have hge : blk ((N id).size : Int) <= blk (S2 : Int) := by unfold blk; split <;> split <;> (try split) <;> (try split) <;> (try split) <;> (try split) <;> omega
    unfold growb at hgr
    omega
  have hform : ∃ a L c, bv = .slice a L c := by obtain ⟨a, c, e, -⟩ := hbv; exact ⟨a, _, c, e⟩
  refine iWrite_calls (id := (id : Int)) ⟨by omega, by omega⟩ (Q := fun w' => ∃ M' N', E.St mem writes M' w' /\ Apart [E.mb] w w' /\ Ino E mem M' N' (upd D id (putD (D id) zs at_ S2)) /\ (∀ j, (N' j).kind = (N j).kind) /\ (∀ j, (N' j).size = if j = id then S2 else (N j).size) /\ freeN (bitM mem M' E.ma) E.k + n = freeN (bitM mem M E.ma) E.k /\ freeN (bitM mem M' E.ma) E.ku + n = freeN (bitM mem M E.ma) E.ku /\ Inw E mem M' N') ?_ ?_ ?_ hform
  · rintro w1 w2 ⟨M', N', q1, q2, q3⟩ hB
    exact ⟨M', N', q1.more hB, q2.trans (Apart.of_below hB), q3⟩
  · rintro w1 ⟨M', N', q1, -⟩
    exact q1.c.sys.ground
  obtain ⟨ba, bc, rfl, -⟩ := hbv.at
  refine write_any (GAP := at_ - (N id).size) (ks := (N id).list) (by omega) hx.2.1 hat rfl rfl hz0 hbv.at (h.load ok hI id h1 h2 hk) hlts.2.2.2.2.1 (fun w5 xv hB5 hK5 hob w9 v9 hB9 hV9 => ?_) (Or.inl rfl)
  have hB09 := hB5.trans (hB9.mono hB5.size)
  have hs5 := hB5.size
  refine (iput_ok (W := w) (base := w.heap.size) (n := n) (S2 := S2) (h.more hB09) ok hlts (Apart.of_below hB09) (Nat.le_refl _) (hK5.below hB9) hB09.size (hV9.toC (by omega)) (fun b off l c e ho => ?_) ⟨h1, h2⟩ (by rw [List.length_append, List.length_replicate]; omega) hgr hfree (by omega) (by omega) (by omega) hlenA (hI.nodup id h1 h2) (hI.mine id h1 h2) ⟨hR, hw.own id h1 h2 hW, hw.opn⟩).mono ?_
  · have g1 := hob b ho.symm
    rcases hV9.row.2 with ⟨hv, -⟩ | ⟨g', cap', cur, hv, hg', -⟩
    · rw [hv] at e; cases e
    · rw [hv] at e
      have : g' = b := by
        have e1 := (Value.slice.inj e).1
        simp only [Option.some.injEq, Addr.mk.injEq] at e1
        exact e1.1
      omega
  · rintro e w' ⟨rfl, l, M', q1, q2, q3, q4, q5⟩
    obtain ⟨r1, r2, r3, r4, r5⟩ := hI.put ok h1 h2 hk12 q1 hgr (by omega) (by rw [List.length_append, List.length_replicate]; omega) (by omega) q2
    rw [putD_gap _ _ _ _ _ hd] at r1
    refine ⟨rfl, ⟨M', _, q3, q4, r1, fun j => ?_, fun j => ?_, r2, r3, hw.put ok h1 h2 r4 r5 _ _⟩, fun b b1 b2 b3 => q5 b b1 b2 b3⟩
    · by_cases hj : j = id
      · subst hj; rw [upd_same]
      · rw [upd_other _ _ hj]
    · by_cases hj : j = id
      · subst hj; rw [upd_same, if_pos rfl]
      · rw [upd_other _ _ hj, if_neg hj]
end
def TE.Use (E : TE) (a : Nat) : Prop := (∃ i, i < E.k /\ a = homeA E.ma i) \/ (∃ id, 1 <= id /\ id <= E.tn /\ a = E.ta + id - 1) \/ ∃ i, i < E.k /\ a = E.fr + i
theorem TE.Ok.use {E : TE} (ok : E.Ok) {a : Nat} (h : E.Use a) : E.Out a := by
  rcases h with ⟨i, h1, rfl⟩ | ⟨id, h1, h2, rfl⟩ | ⟨i, h1, rfl⟩
  · exact ok.hout i h1
  · exact ok.rout id h1 h2
  · exact ok.dout i h1
theorem Ino.congr {E : TE} {mem mem' : Nat -> Int} {M M' : Chg} {N : Nat -> Nd} {D : Nat -> List Int} (h : Ino E mem M N D) (he : ∀ a, E.Use a -> nowM mem' M' a = nowM mem M a) : Ino E mem' M' N D /\ ∀ i, i < E.k -> bitM mem' M' E.ma i = bitM mem M E.ma i := by
  have hb : ∀ i, i < E.k -> bitM mem' M' E.ma i = bitM mem M E.ma i := fun i hi => by
    unfold bitM byteA
    rw [he _ (Or.inl ⟨i, hi, rfl⟩)]
  have hz : ∀ id, 1 <= id -> id <= E.tn -> ∀ z ∈ (N id).list, nowM mem' M' z.toNat = nowM mem M z.toNat := fun id h1 h2 z hz => by
    obtain ⟨i, i1, i2, -⟩ := h.mine id h1 h2 z hz
    exact he _ (Or.inr (Or.inr ⟨i, i1, by omega⟩))
  refine ⟨⟨fun id h1 h2 => ⟨(h.says id h1 h2).1, (he _ (Or.inr (Or.inl ⟨id, h1, h2, rfl⟩))).trans (h.says id h1 h2).2⟩, h.nodup, fun id h1 h2 z hzz => ?_, h.apart, fun id h1 h2 h9 => ?_, fun id h1 h2 => ?_⟩, hb⟩
  · obtain ⟨i, i1, i2, i3⟩ := h.mine id h1 h2 z hzz
    exact ⟨i, i1, i2, by rw [hb i i1]; exact i3⟩
  · rw [hz id h1 h2 _ (getD_mem (by omega))]
    exact h.rest id h1 h2 h9
  · rw [<- h.data id h1 h2]
    refine bytesF_congr (fun j hj => ?_)
    have hbo := (h.says id h1 h2).1
    have hix : idxN (j / 128) < (N id).list.length := by
      have := idxN_lt hbo.2.1 (q := j / 128) (by omega)
      have := hbo.2.2.1
      omega
    unfold byteF
    rw [hz id h1 h2 _ (getD_mem hix)]
def S8 (E : TE) (K : Nat -> Nat) (D : Nat -> List Int) (f u lim : Nat) (w : World) : Prop :=
  ∃ mem writes M N, E.St mem writes M w /\ Ino E mem M N D /\ Idle E.at_ mem /\ (0 <= writes /\ writes <= lim) /\ (∀ j, (N j).kind = K j) /\ freeN (bitM mem M E.ma) E.k = f /\ u <= freeN (bitM mem M E.ma) E.ku /\ Inw E mem M N
def S8z (E : TE) (K : Nat -> Nat) (D : Nat -> List Int) (f u lim : Nat) (w : World) : Prop :=
  ∃ mem writes N, E.St mem writes [] w /\ Ino E mem [] N D /\ Idle E.at_ mem /\ (0 <= writes /\ writes <= lim) /\ (∀ j, (N j).kind = K j) /\ freeN (bitM mem [] E.ma) E.k = f /\ u <= freeN (bitM mem [] E.ma) E.ku /\ Inw E mem [] N
def TE.Far (E : TE) : Prop := (E.ab ≠ E.d /\ E.ab ≠ E.g) /\ E.tb ≠ E.d /\ E.tb ≠ E.g
section
variable {E : TE} {K : Nat -> Nat} {D : Nat -> List Int} {f u lim : Nat} {w w' : World}
theorem S8z.to (h : S8z E K D f u lim w) : S8 E K D f u lim w := by
  obtain ⟨mem, writes, N, h1⟩ := h
  exact ⟨mem, writes, [], N, h1⟩
theorem S8.more (h : S8 E K D f u lim w) (hb : Below w.heap.size w w') : S8 E K D f u lim w' := by
  obtain ⟨mem, writes, M, N, h1, h2⟩ := h
  exact ⟨mem, writes, M, N, h1.more hb, h2⟩
theorem S8z.more (h : S8z E K D f u lim w) (hb : Below w.heap.size w w') : S8z E K D f u lim w' := by
  obtain ⟨mem, writes, N, h1, h2⟩ := h
  exact ⟨mem, writes, N, h1.more hb, h2⟩
theorem S8.lts (h : S8 E K D f u lim w) : E.Ahead w.heap.size := by
  obtain ⟨mem, writes, M, N, h1, h2⟩ := h
  exact h1.lts
theorem S8.over (h : S8 E K D f u lim w) {B : Nat} (hB : E.Ahead B) (hb : Below B w w') : S8 E K D f u lim w' := by
  obtain ⟨mem, writes, M, N, h1, h2⟩ := h
  exact ⟨mem, writes, M, N, h1.over hB hb, h2⟩
theorem S8z.over (h : S8z E K D f u lim w) {B : Nat} (hB : E.Ahead B) (hb : Below B w w') : S8z E K D f u lim w' := by
  obtain ⟨mem, writes, N, h1, h2⟩ := h
  exact ⟨mem, writes, N, h1.over hB hb, h2⟩
theorem S8.ground (h : S8 E K D f u lim w) : Ground w := by
  obtain ⟨mem, writes, M, N, h1, h2⟩ := h
  exact h1.c.sys.ground
theorem S8.below (h : S8 E K D f u lim w) : Below E.w0.heap.size E.w0 w := by
  obtain ⟨mem, wr, M, N, q1, -⟩ := h
  exact q1.c.sys.below
theorem S8.low (h : S8 E K D f u lim w) {u' : Nat} (hl : u' <= u) : S8 E K D f u' lim w := by
  obtain ⟨mem, wr, M, N, q1, q2, q3, q4, q5, q6, q7, q8⟩ := h
  exact ⟨mem, wr, M, N, q1, q2, q3, q4, q5, q6, by omega, q8⟩
theorem S8.len (h : S8 E K D f u lim w) {id : Nat} (h1 : 1 <= id) (h2 : id <= E.tn) : (D id).length <= 4000 := by
  obtain ⟨mem, writes, M, N, q1, q2, q3⟩ := h
  rw [<- q2.data id h1 h2, bytesF_len]
  exact (q2.says id h1 h2).1.2.1
theorem S8.noBytes (h : S8 E K D f u lim w) {id : Nat} (h1 : 1 <= id) (h2 : id <= E.tn) (hk : K id = 0) : D id = [] := by
  obtain ⟨mem, writes, M, N, q1, q2, q3, q4, q5, q6⟩ := h
  rw [<- q2.data id h1 h2]
  rcases (q2.says id h1 h2).1.1 with ⟨-, e, -⟩ | e
  · rw [e]; rfl
  · have := q5 id; omega
theorem need_room8 {l : Grp} {most : Nat} (h : l.length <= most) : 1 + size l <= needN most := by
  have e : size l = rowsN l.length + l.length := rfl
  have e2 := rowsN_mono h
  unfold needN
  omega
theorem all_len8 (at_ : Nat) (l : Grp) (h : l.length <= 200) : (allWs at_ l).length <= 700 := by
  have e : (allWs at_ l).length = (size l + 1) + (l.length + 1) := by rw [allWs, List.length_append, note_len, settleWs, List.length_append]; rfl
  have e2 : size l = rowsN l.length + l.length := rfl
  have e3 := rowsN_le l.length
  omega
theorem TE.St.len {mem : Nat -> Int} {writes : Int} {M : Chg} (h : E.St mem writes M w) (ok : E.Ok) : M.length <= E.most := by
  have hnd : (M.map fun p => p.1.toNat).Nodup := by
    refine List.pairwise_map.2 (h.c.map.tidy.up.imp_of_mem ?_)
    intro p q hp hq hlt e
    obtain ⟨a, _, ha⟩ := h.keys p hp
    obtain ⟨b, _, hb⟩ := h.keys q hq
    omega
  have := sub_len (M.map fun p => p.1.toNat) E.A hnd (fun x hx => by
    obtain ⟨p, hp, rfl⟩ := List.mem_map.1 hx
    obtain ⟨a, ha, e⟩ := h.keys p hp
    rw [e, Int.toNat_natCast]
    exact ha)
  rw [List.length_map] at this
  exact Nat.le_trans this ok.few
theorem S8.flushz (ok : E.Ok) (far : E.Far) (hleft : E.left = -1) (hm : 1 <= E.most /\ E.most <= 200) (h : S8 E K D f u lim w) (hlim : lim <= 300000000) :
    Calls Tryz.prog 107 #[ptr E.cb] w fun e w' => e = .returned .nilIface /\ S8z E K D f u (lim + 1000) w' /\ Apart [E.d, E.g, E.mb] w w' := by
  obtain ⟨mem, wr, M, N, h1, h2, h3, h4, h5, h6, h7, h8⟩ := h
  have hkA : ∀ p ∈ M, ∃ a : Nat, p.1 = (a : Int) /\ a < E.n /\ E.Out a := fun p hp => by
    obtain ⟨a, ha, e⟩ := h1.keys p hp
    exact ⟨a, e, (ok.low a ha).1, ok.aout a ha⟩
  have hn : ∀ x ∈ [E.d, E.g, E.mb], x ≠ E.ab /\ x ≠ E.tb := by
    have e1 := far.1
    have e2 := far.2
    have e3 := ok.abm
    have e4 := ok.tbm
    intro x hx
    simp only [List.mem_cons, List.not_mem_nil, or_false] at hx
    omega
  have hfin : ∀ (mem' : Nat -> Int) (wr' : Int) (w' : World), CSt E.w0 E.d E.g E.n E.jb E.cb E.mb E.at_ E.most E.blocks mem' wr' E.left [] w' -> Apart [E.d, E.g, E.mb] w w' -> (∀ j, E.Out j -> nowM mem' [] j = nowM mem M j) -> Idle E.at_ mem' -> 0 <= wr' /\ wr' <= ((lim + 1000 : Nat) : Int) -> S8z E K D f u (lim + 1000) w' := fun mem' wr' w' c1 c2 c3 c4 c5 => by
    obtain ⟨q1, q2⟩ := h2.congr (mem' := mem') (M' := []) (fun a ha => c3 a (ok.use ha))
    refine ⟨mem', wr', N, ⟨c1, h1.m.keep c2 (fun hm => (hn _ hm).1 rfl), h1.t.keep c2 (fun hm => (hn _ hm).2 rfl), fun p hp => (by cases hp)⟩, q1, c4, c5, h5, ?_, ?_, h8.same ok q2 (fun _ _ _ => rfl)⟩
    · rw [<- h6]
      exact freeN_congr _ q2
    · rw [freeN_congr (T := bitM mem M E.ma) E.ku (fun i hi => q2 i (Nat.lt_of_lt_of_le hi ok.kuk))]
      exact h7
  by_cases hM : M = []
  · subst hM
    refine (flush_none h1.c hm ok.room).mono ?_
    rintro e w' ⟨rfl, hst, hA⟩
    have hA' : Apart [E.d, E.g, E.mb] w w' := hA.mono (fun x hx _ => by
      obtain rfl := List.mem_singleton.1 hx
      simp)
    exact ⟨rfl, hfin mem wr w' hst hA' (fun _ _ => rfl) h3 (by omega), hA'⟩
  · have hpos : 1 <= M.length := by
      rcases Nat.eq_zero_or_pos M.length with e | e
      · exact absurd (List.length_eq_zero_iff.1 e) hM
      · exact e
    have hl80 := h1.len ok
    have hk : ∀ p ∈ M, 0 <= p.1 /\ p.1 < (E.n : Int) /\ (p.1 < (E.at_ : Int) \/ (E.at_ : Int) + (needN E.most : Nat) <= p.1) := fun p hp => by
      obtain ⟨a, e, e1, e2⟩ := hkA p hp
      unfold TE.Out at e2
      omega
    have hg := grpM_good (n := E.n) (at_ := E.at_) (own := needN E.most) h1.c.map.tidy (by omega) hk
    have hr : 1 + size (grpM M) <= needN E.most := need_room8 (by rw [grpM_len]; omega)
    have ha := all_all (mem := mem) hg hr
    have hln := all_len8 E.at_ (grpM M) (by rw [grpM_len]; omega)
    have hc := h1.c
    rw [hleft] at hc hfin
    refine (flush_calls hc (by decide) ⟨h4.1, by omega⟩ hm ok.room h3 hpos hl80 hk).mono ?_
    rintro e w' (⟨rfl, hA, left', hst, -, hl⟩ | ⟨_, _, _, _, _, _, _, _, hne⟩)
    · rw [hl rfl] at hst
      refine ⟨rfl, hfin _ _ w' hst hA (fun j hj => ?_) ha.1 (by omega), hA⟩
      have e0 : nowM (laid (allWs E.at_ (grpM M)) mem) [] j = blockL (laid (allWs E.at_ (grpM M)) mem) j := rfl
      rw [e0]
      by_cases hh : hasM (j : Int) M = true
      · have hmem := getM_mem (z := blockL mem j) hh
        exact ha.2.2 (j, getM (j : Int) M (blockL mem j)) (List.mem_map.2 ⟨_, hmem, by simp⟩)
      · have hf : hasM (j : Int) M = false := by simpa using hh
        rw [ha.2.1 j hj (fun p hp e => by
          obtain ⟨q, hq, rfl⟩ := List.mem_map.1 hp
          obtain ⟨a, e1, -, -⟩ := hkA q hq
          have : hasM (j : Int) M = true := hasM_iff.2 ⟨q, hq, by simp at e; omega⟩
          rw [this] at hf; cases hf)]
        exact (getM_none hf).symm
    · exact absurd rfl hne
theorem S8z.drop (ok : E.Ok) (h : S8z E K D f u lim w) :
    Calls Tryz.prog 108 #[ptr E.cb] w fun e w' => e = .returned (.tuple #[]) /\ S8z E K D f u lim w' /\ Apart [E.mb] w w' := by
  obtain ⟨mem, wr, N, q1, q2⟩ := h
  refine (drop_calls q1.c).mono ?_
  rintro e w' ⟨rfl, hc, hA⟩
  exact ⟨rfl, ⟨mem, wr, N, q1.to ok hc hA (fun p hp => (by cases hp)), q2⟩, hA⟩
theorem S8.mfree (ok : E.Ok) (hkk : E.kk = E.k) (h : S8 E K D f u lim w) :
    Calls Tryz.prog 56 #[ptr E.ab] w fun e w' => e = .returned (.tuple #[.int .i64 (f : Nat), .nilIface]) /\ Below w.heap.size w w' := by
  obtain ⟨mem, wr, M, N, q1, q2, q3, q4, q5, q6, q7⟩ := h
  rw [<- q6]
  have := free_calls q1.c ok.live q1.m ok.fit
  rw [hkk] at this
  exact this
end
theorem bytesF_sub (F : Nat -> List Int) (ks : List Int) (size at_ n : Nat) : ((bytesF F ks 0 size).drop at_).take n = bytesF F ks at_ (min n (size - at_)) := by
  apply List.ext_getElem?
  intro i
  unfold bytesF
  rw [List.getElem?_take, List.getElem?_drop, List.getElem?_map, List.getElem?_map]
  by_cases h1 : i < n
  · rw [if_pos h1]
    by_cases h2 : at_ + i < size
    · rw [List.getElem?_range h2, List.getElem?_range (by omega)]
      simp
    · rw [List.getElem?_eq_none (l := List.range size) (by rw [List.length_range]; omega), List.getElem?_eq_none (l := List.range (min n (size - at_))) (by rw [List.length_range]; omega)]
      rfl
  · rw [if_neg h1, List.getElem?_eq_none (l := List.range (min n (size - at_))) (by rw [List.length_range]; omega)]
    rfl
section
variable {E : TE} {K : Nat -> Nat} {D : Nat -> List Int} {f u lim : Nat} {w w' : World}
theorem S8.make (ok : E.Ok) (h : S8 E K D f u lim w) (kind : Nat) (hk : kind = 1 \/ kind = 2) (id : Nat) (h1 : 1 <= id) (h2 : id <= E.tn) (hfree : K id = 0) (hlow : ∀ i, 1 <= i -> i < id -> K i ≠ 0) (hR : E.R id) :
    Calls Tryz.prog 121 #[ptr E.tb, .int .i64 kind] w fun e w' => e = .returned (.tuple #[.int .i64 id, .nilIface]) /\ S8 E (upd K id kind) D f u lim w' /\ Apart [E.mb] w w' := by
  obtain ⟨mem, wr, M, N, q1, q2, q3, q4, q5, q6, q7, q8⟩ := h
  refine (make_calls q1 ok q2.says kind hk id h1 h2 (by rw [q5]; exact hfree) (fun i a b => by rw [q5]; exact hlow i a b) hR).mono ?_
  rintro e w' ⟨rfl, M', hM, hS, hA⟩
  have hN0 := (q2.says id h1 h2).1
  have hl0 : (N id).list = [] /\ (N id).size = 0 := by
    rcases hN0.1 with ⟨-, b, c⟩ | hh
    · exact ⟨c, b⟩
    · have := q5 id
      omega
  have keep : ∀ no, no ≠ E.ta + id - 1 -> nowM mem M' no = nowM mem M no := fun no hno => by rw [hM, if_neg hno]
  have hdat : ∀ b, 1 <= b -> b <= E.tn -> ∀ z ∈ (N b).list, nowM mem M' z.toNat = nowM mem M z.toNat := fun b b1 b2 z hz => by
    obtain ⟨i, i1, i2, -⟩ := q2.mine b b1 b2 z hz
    exact keep _ (fun e => ok.dr i id i1 h1 h2 (by omega))
  have hbit : ∀ i, i < E.k -> bitM mem M' E.ma i = bitM mem M E.ma i := fun i hi => bit_same (keep _ (ok.hr i id hi h1 h2))
  refine ⟨rfl, ⟨mem, wr, M', upd N id ⟨kind, 0, []⟩, hS, ⟨fun b b1 b2 => ?_, fun b b1 b2 => ?_, fun b b1 b2 z hz => ?_, fun a b a1 a2 b1 b2 hab z hz => ?_, fun b b1 b2 h9 => ?_, fun b b1 b2 => ?_⟩, q3, q4, fun j => ?_, ?_, ?_, ?_⟩, hA⟩
  · by_cases hb : b = id
    · subst hb
      rw [upd_same]
      exact ⟨⟨Or.inr hk, by simp, by simp [blk], by simp⟩, by rw [hM, if_pos rfl]⟩
    · rw [upd_other _ _ hb]
      exact ⟨(q2.says b b1 b2).1, by rw [keep _ (by omega)]; exact (q2.says b b1 b2).2⟩
  · by_cases hb : b = id
    · subst hb; rw [upd_same]; exact List.nodup_nil
    · rw [upd_other _ _ hb]; exact q2.nodup b b1 b2
  · by_cases hb : b = id
    · subst hb; rw [upd_same] at hz; cases hz
    · rw [upd_other _ _ hb] at hz
      obtain ⟨i, i1, i2, i3⟩ := q2.mine b b1 b2 z hz
      exact ⟨i, i1, i2, by rw [hbit i i1]; exact i3⟩
  · by_cases ha : a = id
    · subst ha; rw [upd_same] at hz; cases hz
    · rw [upd_other _ _ ha] at hz
      by_cases hb : b = id
      · subst hb; rw [upd_same]; intro hm; cases hm
      · rw [upd_other _ _ hb]; exact q2.apart a b a1 a2 b1 b2 hab z hz
  · by_cases hb : b = id
    · subst hb; rw [upd_same] at h9; simp at h9
    · rw [upd_other _ _ hb] at h9 ⊢
      rw [hdat b b1 b2 _ (getD_mem (by omega))]
      exact q2.rest b b1 b2 h9
  · by_cases hb : b = id
    · subst hb
      rw [upd_same, <- q2.data b b1 b2, hl0.2]
      rfl
    · rw [upd_other _ _ hb, <- q2.data b b1 b2]
      refine bytesF_congr (fun j hj => ?_)
      have hbo := (q2.says b b1 b2).1
      have hix : idxN (j / 128) < (N b).list.length := by
        have := idxN_lt hbo.2.1 (q := j / 128) (by omega)
        have := hbo.2.2.1
        omega
      unfold byteF
      rw [hdat b b1 b2 _ (getD_mem hix)]
  · by_cases hj : j = id
    · subst hj; rw [upd_same, upd_same]
    · rw [upd_other _ _ hj, upd_other _ _ hj]; exact q5 j
  · rw [<- q6]; exact freeN_congr _ hbit
  · rw [freeN_congr (T := bitM mem M E.ma) E.ku (fun i hi => hbit i (Nat.lt_of_lt_of_le hi ok.kuk))]; exact q7
  · exact q8.same ok hbit (fun j _ _ => by
      by_cases hj : j = id
      · subst hj; rw [upd_same]; exact hl0.1.symm
      · rw [upd_other _ _ hj])
theorem S8.write (ok : E.Ok) (h : S8 E K D f u lim w) {id : Nat} (h1 : 1 <= id) (h2 : id <= E.tn) (hR : E.R id) (hW : E.W id) (hk : K id ≠ 0) {at_ n S2 : Nat} {bv : Value} {zs : List Int} (hbv : BytesC E.mb w bv zs) (hz0 : 0 < zs.length) (hat : at_ + zs.length <= 4000) (hmx : max (D id).length (at_ + zs.length) = S2) (hgr : growb (D id).length S2 = n) (hfree : n <= u) :
    Calls Tryz.prog 66 #[ptr E.tb, .int .i64 id, .int .i64 at_, bv] w fun e w' => e = .returned .nilIface /\ S8 E K (upd D id (putD (D id) zs at_ S2)) (f - n) (u - n) lim w' /\ Apart [E.mb] w w' := by
  obtain ⟨mem, wr, M, N, q1, q2, q3, q4, q5, q6, q7, q8⟩ := h
  have hd : (D id).length = (N id).size := by rw [<- q2.data id h1 h2, bytesF_len]
  rw [hd] at hmx hgr
  refine (Ino.Write q1 ok q2 q8 h1 h2 hR hW (by rw [q5]; exact hk) hbv hz0 hat hmx hgr (by omega)).mono ?_
  rintro e w' ⟨rfl, M', N', r1, r2, r3, r4, r5, r6, r7, r8⟩
  exact ⟨rfl, ⟨mem, wr, M', N', r1, r3, q3, q4, fun j => (r4 j).trans (q5 j), by omega, by omega, r8⟩, r2⟩
theorem S8.read (ok : E.Ok) (h : S8 E K D f u lim w) {id : Nat} (h1 : 1 <= id) (h2 : id <= E.tn) (hk : K id ≠ 0) (at_ n : Nat) (hat : at_ <= 100000) (hn : (n : Int) <= 9223372036854775807) :
    Calls Tryz.prog 78 #[ptr E.tb, .int .i64 id, .int .i64 at_, .int .i64 n] w fun e w' => ∃ v, e = .returned (.tuple #[v, .nilIface]) /\ OwnV w.heap.size w' v (((D id).drop at_).take n) /\ Below w.heap.size w w' := by
  obtain ⟨mem, wr, M, N, q1, q2, q3, q4, q5, q6, q7, q8⟩ := h
  have hx := (q2.says id h1 h2).1
  have htn := ok.tn
  have hG := hidden q1.c.sys.ground
  have kR := iread_calls (w := w) (tb := E.tb) (cb := E.cb) (id := (id : Int)) (K := ((N id).kind : Int)) (at_ := at_) (n := n) (size := (N id).size) (ks := (N id).list) (F := nowM mem M) hat hn hx.2.1 hx.2.2.1 q1.row q1.t.c0 (fun wx hxx => (q1.more hxx).load ok q2 id h1 h2 (by rw [q5]; exact hk)) (fun wx z hxx hz => by
    obtain ⟨i, i1, i2, -⟩ := q2.mine id h1 h2 z hz
    have := (q1.more hxx).read ok (no := z.toNat) (by rw [show z.toNat = E.fr + i by omega]; exact ok.dlow i i1)
    rw [show ((z.toNat : Nat) : Int) = z by omega] at this
    exact this)
  rw [<- bytesF_sub, q2.data id h1 h2] at kR
  replace kR := hidden kR
  have hi : i64 (id : Int) := ⟨by omega, by omega⟩
  replace hi := hidden hi
  clear q1 q2 q3 q4 q5 q6 q7 q8 hx ok
  go_enter Tryz.func78, Tryz.ntmps78
  go_wp2_with fail
  refine (kR.out).mono ?_
  rintro ev w1 ⟨v, rfl, hV, hB⟩
  have kA := hidden (about_nil id hi.out w1 (hG.out.below hB))
  have hE := hidden (And.intro hV hB)
  clear hV hB kR
  go_wp2_with fail
  refine (kA.out).mono ?_
  rintro ev w2 ⟨rfl, hB2⟩
  have hE2 := hidden (And.intro (hE.out.1.below hB2) (hE.out.2.trans (hB2.mono hE.out.2.size)))
  clear hB2 hE
  go_wp2
  go_ret2
  exact ⟨v, rfl, hE2.out⟩
theorem S8.size (ok : E.Ok) (h : S8 E K D f u lim w) {id : Nat} (h1 : 1 <= id) (h2 : id <= E.tn) (hk : K id ≠ 0) :
    Calls Tryz.prog 140 #[ptr E.tb, .int .i64 id] w fun e w' => e = .returned (.tuple #[.int .i64 ((D id).length : Nat), .nilIface]) /\ Below w.heap.size w w' := by
  obtain ⟨mem, wr, M, N, q1, q2, q3, q4, q5, q6, q7, q8⟩ := h
  have htn := ok.tn
  have hG := hidden q1.c.sys.ground
  have hd : (D id).length = (N id).size := by rw [<- q2.data id h1 h2, bytesF_len]
  rw [hd]
  have kU := hidden (q1.used ok q2 id h1 h2 (by rw [q5]; exact hk))
  have hi : i64 (id : Int) := ⟨by omega, by omega⟩
  replace hi := hidden hi
  generalize ((N id).kind : Int) = KK at *
  generalize ((N id).size : Int) = SS at *
  clear q1 q2 q3 q4 q5 q6 q7 q8 ok hd
  go_enter Tryz.func140, Tryz.ntmps140
  go_wp2_with fail
  refine (kU.out).mono ?_
  rintro ev w1 ⟨v, rfl, hK, hB⟩
  obtain ⟨w5, hw5, hB5, hN5⟩ : ∃ w5, w1.alloc (.cells #[.int .i64 KK, .int .i64 SS, v] 151) = w5 /\ Below w1.heap.size w1 w5 /\ NdAt w5 w1.heap.size KK SS v := ⟨_, rfl, (Below.refl _ _).alloc (Nat.le_refl _) _, ⟨by simp, by simp, by simp⟩⟩
  obtain ⟨a, c, rfl, -⟩ := hK.form
  have n1 := hN5.c1
  have hB05 := hB.trans (hB5.mono hB.size)
  have hBd := hidden (hB05.trans ((below_drew1 w5).mono hB05.size))
  have kA := hidden (about_nil id hi.out w5.drew (hG.out.below hBd.out))
  have kn := hidden (fun (wx : World) (hx : Below w5.drew.heap.size w5.drew wx) => show wx.cell? ⟨w1.heap.size, 1, none⟩ = some (.int .i64 SS) from (hx.cell (p := ⟨w1.heap.size, 1, none⟩) (lt_of_cell (a := ⟨w1.heap.size, 1, none⟩) n1)).trans n1)
  clear hK hB hB5 hN5 hB05 kU hG
  generalize (List.take 9 (N id).list).length = LL at *
  go_upto_region 2 with fail
  clear hw5
  go_region_with (go_at_call 123; refine (kA.out).mono ?_; rintro ev w6 ⟨rfl, hB6⟩; have n6 := kn.out _ hB6; have hE := hidden (hBd.out.trans (hB6.mono hBd.out.size)); clear hB6)
  all_goals (go_wp2; go_ret2; exact ⟨rfl, hE.out⟩)
end
theorem ofB_list (ns : List Int) : (ofBytes ns).data.toList = ns.map fun n => UInt8.ofNat n.toNat := by
  have key : ∀ (ns : List Int) (r : ByteArray), (ns.foldl (fun r n => r.push (UInt8.ofNat n.toNat)) r).data.toList = r.data.toList ++ ns.map fun n => UInt8.ofNat n.toNat := by
    intro ns
    induction ns with
    | nil => intro r; simp
    | cons n l ih => intro r; rw [List.foldl_cons, ih]; simp
  have := key ns ByteArray.empty
  simpa [ofBytes] using this
theorem ofB_size (l : List Int) : (ofBytes l).size = l.length := by
  have := congrArg List.length (ofB_list l)
  simpa using this
theorem ofB_append (a b : List Int) : ofBytes a ++ ofBytes b = ofBytes (a ++ b) := by
  apply ByteArray.ext
  apply Array.toList_inj.1
  rw [ofB_list, ByteArray.data_append, Array.toList_append, ofB_list, ofB_list, List.map_append]
def grownL (d : List Int) (n : Nat) : List Int := d ++ List.replicate (n - d.length) 0
theorem bytes_of (m : Nat) (w : World) (d : List Int) (hd : ∀ z ∈ d, 0 <= z /\ z <= 255) (hl : d.length <= 1000000) (hm : m < w.heap.size) :
    ∃ cap w', (convert 9 38 (.string (ofBytes d))).run Tryz.prog w = .ok (.slice (some ⟨w.heap.size, 0, none⟩) d.length cap) w' /\ BytesC m w' (.slice (some ⟨w.heap.size, 0, none⟩) d.length cap) d /\ Below w.heap.size w w' := by
  have hs := ofB_size d
  have h := Lib.run_convert_string_bytes (P := Tryz.prog) w 9 38 5 (ofBytes d) Tryz.underlying9 Tryz.underlying38 Tryz.underlying5
  rw [hs] at h
  refine ⟨_, _, h, ⟨_, _, rfl, grownCap_ge _ _ _ _, grownCap_le_maxLen _ _ _ _ (by unfold maxLen; omega), hd, fun e => (by cases e), fun _ => ⟨w.heap.size, 0, rfl, by rw [Lib.bytesWorld_size]; omega, by omega, fun k hk => ?_⟩⟩, ⟨rfl, rfl, rfl, by rw [Lib.bytesWorld_size]; omega, fun j hj => Lib.bytesWorld_at_old w _ _ j hj⟩⟩
  rw [Nat.zero_add, Lib.bytesWorld_cell w _ _ k (by rw [hs]; exact hk), ofB_list]
  have hz := hd (d[k]) (List.getElem_mem hk)
  simp [List.getD, hk]
  omega
theorem ofB_cut (d : List Int) (i j : Nat) : (ofBytes d).extract i j = ofBytes ((d.take j).drop i) := by
  apply ByteArray.ext
  apply Array.toList_inj.1
  rw [ofB_list, ByteArray.data_extract, Array.toList_extract, ofB_list]
  simp only [List.extract, List.map_drop, List.map_take]
  rw [List.drop_take]
theorem piece_text (d zs : List Int) (at_ : Nat) : (grownL d (at_ + zs.length)).take at_ ++ zs ++ (grownL d (at_ + zs.length)).drop (at_ + zs.length) = putD d zs at_ (max d.length (at_ + zs.length)) := by
  have hgl : (grownL d (at_ + zs.length)).length = max d.length (at_ + zs.length) := by unfold grownL; rw [List.length_append, List.length_replicate]; omega
  have hg : ∀ i, i < max d.length (at_ + zs.length) -> (grownL d (at_ + zs.length))[i]? = some (d.getD i 0) := fun i hi => by
    unfold grownL
    by_cases h : i < d.length
    · rw [List.getElem?_append_left h, List.getElem?_eq_getElem h, List.getD_eq_getElem?_getD, List.getElem?_eq_getElem h]
      rfl
    · rw [List.getElem?_append_right (by omega), List.getElem?_replicate, if_pos (by omega), List.getD_eq_getElem?_getD, List.getElem?_eq_none (by omega)]
      rfl
  apply List.ext_getElem?
  intro i
  unfold putD
  rw [List.getElem?_map]
  have htl : ((grownL d (at_ + zs.length)).take at_).length = at_ := by rw [List.length_take]; omega
  by_cases hi : i < max d.length (at_ + zs.length)
  · rw [List.getElem?_range hi, Option.map_some]
    by_cases h1 : i < at_
    · rw [List.append_assoc, List.getElem?_append_left (by omega), List.getElem?_take, if_pos h1, hg i hi, if_neg (by omega)]
    · by_cases h2 : i < at_ + zs.length
      · rw [List.getElem?_append_left (by rw [List.length_append]; omega), List.getElem?_append_right (by omega), htl, if_pos (by omega), List.getElem?_eq_getElem (by omega), List.getD_eq_getElem?_getD, List.getElem?_eq_getElem (by omega)]
        rfl
      · rw [List.getElem?_append_right (by rw [List.length_append]; omega), List.length_append, htl, List.getElem?_drop, if_neg (by omega), show at_ + zs.length + (i - (at_ + zs.length)) = i by omega, hg i hi]
  · rw [List.getElem?_eq_none (l := List.range _) (by rw [List.length_range]; omega), List.getElem?_eq_none (by rw [List.length_append, List.length_append, htl, List.length_drop, hgl]; omega)]
    rfl
theorem ownV_at {base : Nat} {w : World} {v : Value} {zs : List Int} (h : OwnV base w v zs) : BytesAt w v zs := by
  by_cases hz : zs = []
  · subst hz
    rcases h.row.2 with ⟨rfl, h0⟩ | ⟨g', cap', cur, rfl, h1, hh, h2, h3, h4⟩
    · exact BytesAt.nil _
    · exact ⟨_, cap', rfl, by simp, by simp, fun e => (by cases e), fun e => absurd rfl e⟩
  · obtain ⟨b, cap, rfl, hB⟩ := h.form hz
    exact hB.bytes
end Go.Proofs.YtpofmiecjkghgaaGreatDoor
