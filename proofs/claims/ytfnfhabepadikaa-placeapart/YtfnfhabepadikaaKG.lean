/- What the statements of layer 18 ask, of lists. -/
import Derived.Test.YtfnfhabepadikaaKE
namespace Go.Proofs.Ytfnfhabepadikaa
open Go Go.RowKit
set_option maxRecDepth 100000

/-- All of a piece's bytes lie in the list. -/
def Good (C : List Rg) (s q : Int) : Prop := ∀ k, q ≤ k → k < q + s → inR C k
theorem good_found {C : List Rg} {s q : Int} (h : findL C s = some q) (hs : 1 ≤ s) : Good C s q := by
  obtain ⟨-, -, a, ha, h1, h2⟩ := find_some h
  exact fun k hk1 hk2 => ⟨a, ha, by omega, by omega⟩
theorem found_of_good {C : List Rg} {s p : Int} (hC : Cln C) (hs : 1 ≤ s) (hp : p % 16 = 0) (h : Good C s p) : ∃ q, findL C s = some q ∧ q ≤ p := by
  obtain ⟨n, hn⟩ := Int.eq_ofNat_of_zero_le (show 0 ≤ s - 1 by omega)
  obtain ⟨a, ha, h1, h2⟩ := run_in n hC p fun k hk1 hk2 => h k hk1 (by omega)
  exact find_first hC (by omega) hp ⟨a, ha, h1, by omega⟩
theorem first_is {C : List Rg} {s p : Int} (hC : Cln C) (hs : 1 ≤ s) (hp : p % 16 = 0) (h : Good C s p) (hno : ∀ q, 0 ≤ q → q < p → q % 16 = 0 → ¬ Good C s q) (h0 : ∀ k, inR C k → 0 ≤ k) : findL C s = some p := by
  obtain ⟨q, hq, hle⟩ := found_of_good hC hs hp h
  have hg := good_found hq hs
  have hq0 := h0 q (hg q (Int.le_refl _) (by omega))
  rcases Int.lt_or_eq_of_le hle with h1 | rfl
  · exact absurd hg (hno q hq0 h1 (find_some hq).2.1)
  · exact hq
theorem first_none {C : List Rg} {s e : Int} (hs : 1 ≤ s) (hno : ∀ q, 0 ≤ q → q < e → q % 16 = 0 → ¬ Good C s q) (h0 : ∀ k, inR C k → 0 ≤ k ∧ k < e) : findL C s = none := by
  cases hq : findL C s with
  | none => rfl
  | some q =>
    have hg := good_found hq hs
    obtain ⟨h1, h2⟩ := h0 q (hg q (Int.le_refl _) (by omega))
    exact absurd hg (hno q h1 h2 (find_some hq).2.1)
theorem less_found {C : List Rg} {s t p : Int} (hC : Cln C) (h : findL C s = some p) (ht : 1 ≤ t) (hts : t ≤ s) : ∃ b, findL C t = some b ∧ b ≤ p := by
  have hg := good_found h (by omega)
  exact found_of_good hC ht (find_some h).2.1 fun k hk1 hk2 => hg k hk1 (by omega)
/-- Small ranges of a statement. -/
def Small (L : List Rg) (e : Int) : Prop := ∀ a ∈ L, 0 ≤ a.1 ∧ a.1 ≤ a.2 ∧ a.2 ≤ e
theorem Small.push {L : List Rg} {e : Int} (h : Small L e) {x y : Int} (h1 : 0 ≤ x) (h2 : x ≤ y) (h3 : y ≤ e) : Small (L ++ [(x, y)]) e := fun a ha => by
  rcases List.mem_append.1 ha with ha | ha
  · exact h a ha
  · rw [List.mem_singleton] at ha; subst ha; exact ⟨h1, h2, h3⟩
theorem Small.ok {L : List Rg} {e : Int} (h : Small L e) (he : e ≤ 1073741824) (hl : L.length ≤ 32) : OkL L := ⟨hl, fun a ha => by obtain ⟨h1, h2, h3⟩ := h a ha; exact ⟨h1, h2, by omega⟩⟩
theorem Small.inR {L : List Rg} {e : Int} (h : Small L e) {k : Int} (hk : inR L k) : 0 ≤ k ∧ k < e := by
  obtain ⟨a, ha, h1, h2⟩ := hk
  obtain ⟨h3, h4, h5⟩ := h a ha
  omega
theorem Small.clean {L : List Rg} {e : Int} (h : Small L e) (he : e ≤ 1073741824) (hl : L.length ≤ 32) : Cln (cleanL L) ∧ (∀ k, Go.Proofs.Ytfnfhabepadikaa.inR (cleanL L) k ↔ Go.Proofs.Ytfnfhabepadikaa.inR L k) := cleanL_is (h.ok he hl)
/-- A prefix of what is placed. -/
theorem allA_prefix : ∀ (Z : List Int) {M : List Rg} {acc P : List Int}, allA M acc Z = some P → ∃ t, P = acc ++ t ∧ t.length = Z.length
  | [], M, acc, P, h => ⟨[], by rw [allA] at h; simp at h; simp [h], rfl⟩
  | s :: ss, M, acc, P, h => by
    rw [allA] at h
    cases hf : findL M s with
    | none => rw [hf] at h; simp at h
    | some p =>
      rw [hf] at h
      obtain ⟨t, ht, hl⟩ := allA_prefix ss h
      exact ⟨p :: t, by rw [ht]; simp, by simp [hl]⟩
theorem allR_len {C : List Rg} {Z P : List Int} (h : allR C Z = some P) : P.length = Z.length := by
  unfold allR at h
  split at h
  · obtain ⟨t, rfl, hl⟩ := allA_prefix Z h
    simpa using hl
  · cases h
/-- What is placed, step by step: M is what is left ahead of piece i. -/
def StepA (Z P : List Int) (i : Nat) (M : List Rg) : Prop := Held M ∧ ∃ acc : List Int, acc.length = i ∧ allA M acc (Z.drop i) = some P
theorem stepA_begin {L : List Rg} {Z P : List Int} (h : allR (cleanL L) Z = some P) : StepA Z P 0 (cleanL L) := by
  unfold allR at h
  split at h
  · exact ⟨held_clean L, [], rfl, h⟩
  · cases h
theorem stepA_step {Z P : List Int} {i : Nat} {M : List Rg} (h : StepA Z P i M) {z : Int} (hz : Z[i]? = some z) :
    ∃ p, P[i]? = some p ∧ 0 ≤ z ∧ 0 ≤ p ∧ p % 16 = 0 ∧ (∀ k, p ≤ k → k < p + max z 1 → inR M k) ∧ StepA Z P (i + 1) (takeL M (p, upZ (p + max z 1))) := by
  obtain ⟨hH, acc, hl, ha⟩ := h
  cases hf : findL M z with
  | none => rw [allA_none hz hf] at ha; cases ha
  | some p =>
    rw [allA_some hz hf] at ha
    obtain ⟨h1, h2, h3⟩ := findL_bounds hH hf
    refine ⟨p, ?_, h1, h2, (find_some hf).2.1, ?_, hH.takes _, acc ++ [p], by simp [hl], ha⟩
    · obtain ⟨t, ht, -⟩ := allA_prefix _ ha
      rw [ht, ← hl]
      simp
    · obtain ⟨-, -, a, h4, h5, h6⟩ := find_some hf
      exact fun k hk1 hk2 => ⟨a, h4, by omega, by omega⟩
theorem clean_perm {L K : List Rg} (h : ∀ a, a ∈ K ↔ a ∈ L) (hL : OkL L) (hK : OkL K) : cleanL K = cleanL L :=
  IsCl.unique (l := L) ⟨(cleanL_is hK).1, fun k => ((cleanL_is hK).2 k).trans (inR_perm h k)⟩ (cleanL_is hL)
theorem clean_clean (L : List Rg) : cleanL (cleanL L) = cleanL L :=
  cleanL_self ⟨cleanL_len L, fun a ha => by obtain ⟨h1, h2, h3⟩ := cleanL_tame L a ha; exact ⟨h1, Int.le_of_lt h2, h3⟩⟩ (cleanL_cln L)
theorem take_take {C : List Rg} (h : Cln C) (r : Rg) : takeL (takeL C r) r = takeL C r :=
  cln_unique (take_cln (take_cln h r) r) (take_cln h r) fun k => by
    rw [take_in, take_in]
    exact ⟨fun h => h.1, fun h => ⟨h, h.2⟩⟩
theorem clean_take {L : List Rg} (r : Rg) (hl : (takeL (cleanL L) r).length ≤ 32) : cleanL (takeL (cleanL L) r) = takeL (cleanL L) r :=
  cleanL_self ⟨hl, fun a ha => by
    have h := (held_clean L).takes r
    have h1 := h.1.ne a ha
    obtain ⟨h2, h3⟩ := h.2 a ha
    exact ⟨h2, by omega, h3⟩⟩ (take_cln (cleanL_cln L) r)
theorem drop_in {C : List Rg} (hC : Cln C) {i : Nat} {p q : Int} (h : C[i]? = some (p, q)) (k : Int) : inR (C.drop (i + 1)) k ↔ inR (C.drop i) k ∧ ¬ (p ≤ k ∧ k < q) := by
  obtain ⟨h1, h2⟩ := List.getElem?_eq_some_iff.1 h
  have hd : C.drop i = (p, q) :: C.drop (i + 1) := by rw [List.drop_eq_getElem_cons h1, h2]
  have hc : Cln (C.drop i) := (cln_append.1 (show Cln (C.take i ++ C.drop i) by rw [List.take_append_drop]; exact hC)).2.1
  rw [hd] at hc ⊢
  rw [inR_cons]
  dsimp only
  constructor
  · intro hk
    refine ⟨Or.inr hk, ?_⟩
    obtain ⟨b, hb, h3, h4⟩ := hk
    have h5 := hc.2.1 b hb
    dsimp only at h5
    omega
  · rintro ⟨h3 | h3, h4⟩
    · exact absurd h3 h4
    · exact h3
theorem cln_pair {C : List Rg} (hC : Cln C) {i : Nat} {a b : Rg} (ha : C[i]? = some a) (hb : C[i + 1]? = some b) : a.2 < b.1 := by
  obtain ⟨h1, h2⟩ := List.getElem?_eq_some_iff.1 ha
  have hd : C.drop i = a :: C.drop (i + 1) := by rw [List.drop_eq_getElem_cons h1, h2]
  have hc : Cln (C.drop i) := (cln_append.1 (show Cln (C.take i ++ C.drop i) by rw [List.take_append_drop]; exact hC)).2.1
  rw [hd] at hc
  refine hc.2.1 b (List.mem_iff_getElem?.2 ⟨0, ?_⟩)
  rw [List.getElem?_drop]; exact hb
/-- A list turned. -/
theorem turn_mem {n t : Nat} (hn : 0 < n) {L K : List Rg} (hL : L.length = n) (hK : K.length = n) (h : ∀ i, i < n → K[i]? = L[(i + t) % n]?) (a : Rg) : a ∈ K ↔ a ∈ L := by
  constructor
  · intro ha
    obtain ⟨i, hi⟩ := List.mem_iff_getElem?.1 ha
    have hlt := (List.getElem?_eq_some_iff.1 hi).1
    rw [h i (by omega)] at hi
    exact List.mem_iff_getElem?.2 ⟨_, hi⟩
  · intro ha
    obtain ⟨j, hj⟩ := List.mem_iff_getElem?.1 ha
    have hlt : j < n := by have := (List.getElem?_eq_some_iff.1 hj).1; omega
    refine List.mem_iff_getElem?.2 ⟨(j + (n - t % n)) % n, ?_⟩
    rw [h _ (Nat.mod_lt _ hn), ← hj]
    congr 1
    have h1 := Nat.mod_lt t hn
    rw [Nat.add_mod, Nat.mod_mod, ← Nat.add_mod, Nat.add_assoc, Nat.add_mod, show (n - t % n + t) % n = 0 by
      have h2 := Nat.div_add_mod t n
      rw [show n - t % n + t = n + n * (t / n) by omega]
      simp]
    rw [Nat.add_zero, Nat.mod_mod, Nat.mod_eq_of_lt hlt]
theorem nat_of {f : Int} (h : 0 ≤ f) : ∃ n : Nat, f = (n : Int) := Int.eq_ofNat_of_zero_le h
theorem Box.apart {bs : List Nat} {w w' : World} {b : Nat} {x y : Int} (h : Box w b x y) (ha : Apart bs w w') (hn : b ∉ bs) : Box w' b x y := h.heap (ha.block b h.lt hn)
theorem BAt.new {w w' : World} {g n : Nat} {f : Nat → Bool} (h : BAt w g n f) (hb : ∀ b, b < w.heap.size → b = g → w'.heap[b]? = w.heap[b]?) (hs : w.heap.size ≤ w'.heap.size) : BAt w' g n f := h.heap (hb g h.lt rfl) hs
theorem Box.set1 {w : World} {b : Nat} {x y : Int} (h : Box w b x y) (z : Int) : Box (w.setCell ⟨b, 1, none⟩ (.int .i64 z)).drew b x z := by
  have h2 : Box (w.setCell ⟨b, 1, none⟩ (.int .i64 z)) b x z := by
    refine ⟨?_, World.cell?_setCell_same _ _ _ h.c1, fun j => by have := h.fz j; simpa using this⟩
    rw [World.cell?_setCell_other w ⟨b, 1, none⟩ ⟨b, 0, none⟩ (.int .i64 z) (fun he => by injection he with _ h2 _; exact absurd h2 (by decide))]
    exact h.c0
  exact h2.below ((Below.refl _ _).drew)
/-- What stands between two rounds of a statement that fills an array beside a list of ranges of its own. -/
structure Fill (w : World) (g n : Nat) (e : Int) (m : Nat) (wr : World) (va : Value) (L : List Rg) : Prop where
  own : RgOwn (g + 1) wr va L
  len : L.length = m
  small : Small L e
  tell : ∃ f, BAt wr g n f ∧ Tells n f L
  bel : Below g w wr
theorem Fill.gt {w : World} {g n : Nat} {e : Int} {m : Nat} {wr : World} {va : Value} {L : List Rg} (h : Fill w g n e m wr va L) : g < wr.heap.size := by
  obtain ⟨f, hf, -⟩ := h.tell
  exact hf.lt
/-- One range is appended; the array stands still. -/
theorem Fill.push {w : World} {g n : Nat} {e : Int} {m : Nat} {wr wx : World} {va : Value} {L : List Rg} (h : Fill w g n e m wr va L) (hx : Below wr.heap.size wr wx) (hm : m < 100000) (x y : Int) :
    ∃ v' w', (Builtin.append_ #[22, 22] 22 #[va, .slice (some ⟨wx.heap.size, 0, none⟩) 1 1]).run Try.prog (wx.alloc (Obj.cells #[Value.int .i64 x, Value.int .i64 y] 25)) = .ok v' w' ∧ RgOwn (g + 1) w' v' (L ++ [(x, y)]) ∧ (∃ f, BAt w' g n f ∧ Tells n f L) ∧ Below g w w' ∧ wx.heap.size ≤ w'.heap.size ∧ ∀ b, wr.heap.size ≤ b → b < wx.heap.size → w'.heap[b]? = wx.heap[b]? := by
  have hg := h.gt
  obtain ⟨v', w', h1, h2, h3, h4, h5⟩ := h.own.push1 hx (by omega) (by rw [h.len]; omega) x y
  obtain ⟨f, hf, ht⟩ := h.tell
  refine ⟨v', w', h1, h2, ⟨f, (hf.below hx).heap (h5 g (by have := hx.size; omega) ?_) (Nat.le_trans (Nat.le_refl _) (by have := hx.size; omega)), ht⟩, h.bel.trans ((h3.mono (by omega))), h4, fun b hb1 hb2 => h5 b hb2 (h.own.fresh hb1)⟩
  intro he
  have := (h.own.row.lt g he.symm).1
  omega
/-- While the bytes of the last range are being put into the array. -/
structure Mid (w : World) (g n : Nat) (e : Int) (m : Nat) (w4 wr : World) (va : Value) (L : List Rg) (p c q : Int) : Prop where
  own : RgOwn (g + 1) w4 va (L ++ [(p, q)])
  len : L.length = m
  small : Small L e
  ap : Apart [g] w4 wr
  tell : ∃ f, BAt wr g n f ∧ TellsTo n f L p c
  bel : Below g w w4
theorem Mid.end {w : World} {g n : Nat} {e : Int} {m : Nat} {w4 wr : World} {va : Value} {L : List Rg} {p c q : Int} (h : Mid w g n e m w4 wr va L p c q) (h0 : 0 ≤ p) (hpq : p ≤ q) (hq : q ≤ e) (hc : c = q) (hg : g < w4.heap.size) : Fill w g n e (m + 1) wr va (L ++ [(p, q)]) := by
  obtain ⟨f, hf, ht⟩ := h.tell
  exact ⟨h.own.keep h.ap (by simp), by simp [h.len], h.small.push h0 hpq hq, ⟨f, hf, tells_end ht (by omega) (by omega)⟩, h.bel.trans (h.ap.below (by simp) (Nat.le_of_lt hg))⟩
theorem Mid.step {w : World} {g n : Nat} {e : Int} {m : Nat} {w4 wr : World} {va : Value} {L : List Rg} {p q : Int} {c : Nat} (h : Mid w g n e m w4 wr va L p c q) (hp : p ≤ c) (hc : c < n) : Mid w g n e m w4 (wr.setCell ⟨g, c, none⟩ (.bool true)) va L p ((c + 1 : Nat) : Int) q := by
  obtain ⟨f, hf, ht⟩ := h.tell
  exact ⟨h.own, h.len, h.small, h.ap.setCell (by simp) _, ⟨_, hf.store c hc true, tells_step ht hp⟩, h.bel⟩
theorem Mid.cell {w : World} {g n : Nat} {e : Int} {m : Nat} {w4 wr : World} {va : Value} {L : List Rg} {p q c : Int} (h : Mid w g n e m w4 wr va L p c q) (k : Nat) (hk : k < n) : ∃ b, wr.cell? ⟨g, k, none⟩ = some (.bool b) := by
  obtain ⟨f, hf, ht⟩ := h.tell
  exact ⟨_, hf.cell k hk⟩
theorem Mid.fz {w : World} {g n : Nat} {e : Int} {m : Nat} {w4 wr : World} {va : Value} {L : List Rg} {p q c : Int} (h : Mid w g n e m w4 wr va L p c q) (k : Nat) : wr.frozen? ⟨g, k, none⟩ = false := by
  obtain ⟨f, hf, ht⟩ := h.tell
  exact hf.fz k
/-- While an array is being wiped. -/
structure Wipe (w7 : World) (g n : Nat) (wr : World) (f : Nat → Bool) : Prop where
  ap : Apart [g] w7 wr
  arr : BAt wr g n f
theorem Wipe.step {w7 wr : World} {g n : Nat} {f : Nat → Bool} (h : Wipe w7 g n wr f) (c : Nat) (hc : c < n) : Wipe w7 g n (wr.setCell ⟨g, c, none⟩ (.bool false)) (fun j => if j = c then false else f j) := ⟨h.ap.setCell (by simp) _, h.arr.store c hc false⟩
theorem Wipe.drawn {w7 wr : World} {g n : Nat} {f : Nat → Bool} (h : Wipe w7 g n wr f) (m : Nat) : Wipe w7 g n (wr.drewN m) f := ⟨h.ap.drewN m, h.arr.below (bdN wr m)⟩
theorem Wipe.below {w7 wr : World} {g n : Nat} {f : Nat → Bool} (h : Wipe w7 g n wr f) (w0 : World) {B : Nat} (hb : Below B w0 w7) (hB : B ≤ g) (h7 : g < w7.heap.size) : Below B w0 wr := hb.trans (h.ap.below (by simpa using hB) (by omega))
theorem Wipe.other {w7 wr : World} {g n : Nat} {f : Nat → Bool} (h : Wipe w7 g n wr f) {b : Nat} (hb : b < w7.heap.size) (hn : g < b) (j : Nat) : wr.cell? ⟨b, j, none⟩ = w7.cell? ⟨b, j, none⟩ := h.ap.cell (p := ⟨b, j, none⟩) hb (by simp; omega)
theorem Kept.cells {base : Nat} {w : World} {v : Value} {ks : List Int} (h : Kept base w v ks) : ∃ b cap, v.ownBlock = v.ownBlock ∧ (ks ≠ [] → v = .slice (some ⟨b, 0, none⟩) ks.length cap ∧ base ≤ b ∧ b < w.heap.size) ∧ ∀ k x, ks[k]? = some x → w.cell? ⟨b, k, none⟩ = some (.int .i64 x) := by
  rcases h.part with ⟨rfl, rfl⟩ | ⟨g, cap, rfl, h1, h2, h3⟩
  · exact ⟨0, 0, rfl, fun h => absurd rfl h, fun k x hk => by simp at hk⟩
  · refine ⟨g, cap, rfl, fun _ => ⟨rfl, h1, h2⟩, fun k x hk => ?_⟩
    obtain ⟨hkl, hkx⟩ := List.getElem?_eq_some_iff.1 hk
    rw [h3 k hkl]
    simp [List.getD, hk]
end Go.Proofs.Ytfnfhabepadikaa
