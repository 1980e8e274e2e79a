/- FsMoves: what its files have, what is free; each of its calls. -/
import Derived.Test.YtleafmdjhmnjmaaGreatDoorGWu
import Derived.Test.YtleafmdjhmnjmaaGreatDoorGWv
namespace Go.Proofs.YtleafmdjhmnjmaaGreatDoor
open Go.RowKit Go.Extern.Stop Go.Stop Go.Extern Go.Maps Go.Sort Go.Shelf
set_option maxRecDepth 100000
theorem walk_snoc {K : Nat -> Nat} {T : Nat -> List Rec} {s : List UInt8} {r : Rec} {q : Nat} (hq : K q = 2) (hs : lookT (T q) s = some r) : ∀ (l : List (List UInt8)) (p : Nat), walkT K T p l = .ok q -> walkT K T p (l ++ [s]) = .ok r.id
  | [], p, h => by
    obtain rfl : p = q := by simpa [walkT] using h
    show walkT K T p [s] = _
    unfold walkT
    rw [if_pos hq, hs]
    rfl
  | a :: l, p, h => by
    show walkT K T p (a :: (l ++ [s])) = _
    unfold walkT at h ⊢
    by_cases hp : K p = 2
    · rw [if_pos hp] at h ⊢
      cases ha : lookT (T p) a with
      | none => rw [ha] at h; cases h
      | some b =>
        rw [ha] at h
        exact walk_snoc hq hs l b.id h
    · rw [if_neg hp] at h
      cases h
theorem bk_step : ∀ i : Fin 20, bkL (i.val + 1) <= bkL i.val + 1 /\ bkL i.val <= bkL (i.val + 1) := by decide +kernel
theorem dI_le {n d : Nat} (hn : n <= 7) : dI n d <= 2 + 8 * d := by
  induction d with
  | zero => exact Nat.le_refl _
  | succ d ih =>
    show dI n d + n + 1 <= _
    omega
theorem dI_fne {n i k j : Nat} (hk : k < n) : dI n i + 1 + k ≠ dI n j := fun e => by
  rcases Nat.lt_trichotomy i j with h' | h' | h'
  · have := dI_lt (n := n) h'; omega
  · subst h'; omega
  · have := dI_lt (n := n) h'; omega
theorem dI_finj {n i j k k' : Nat} (hk : k < n) (hk' : k' < n) (e : dI n i + 1 + k = dI n j + 1 + k') : i = j /\ k = k' := by
  rcases Nat.lt_trichotomy i j with h' | h' | h'
  · have := dI_lt (n := n) h'; omega
  · subst h'; exact ⟨rfl, by omega⟩
  · have := dI_lt (n := n) h'; omega
theorem dI_flt {n i j k : Nat} (hij : i <= j) (hk : k < n) : dI n i + 1 + k < dI n j + n + 1 := by
  rcases Nat.lt_or_ge i j with h' | h'
  · have := dI_lt (n := n) h'; omega
  · obtain rfl : i = j := by omega
    omega
def fileB (i : Nat) : List Int := bI (pathD (i + 1))
theorem fileB_len (i : Nat) : (fileB i).length = 2 * (i + 1) := by unfold fileB; rw [bI_len, pathD_len]
def mvP (n d m : Nat) (D : Nat -> List Int) (f : Nat) : Prop := 125 <= f + 2 * (dI n d + m) /\ ∀ i k, i <= d -> k < n -> (i = d -> k < m) -> D (dI n i + 1 + k) = fileB i
def mvB (n d : Nat) (D : Nat -> List Int) : Prop := ∀ i k, i <= d -> k < n -> D (dI n i + 1 + k) = fileB i
section
variable {fb hb xb lim n d m : Nat} {P P' : (Nat -> List Int) -> Nat -> Prop} {K : Nat -> Nat} {T : Nat -> List Rec} {w0 w w' : World}
theorem GrS.imp {rs N dd : Nat} (h : GrS rs fb hb xb N dd P K T lim w0 w) (hP : ∀ D f, P D f -> P' D f) : GrS rs fb hb xb N dd P' K T lim w0 w := by
  obtain ⟨⟨E, ⟨⟨D, f, hp, h0⟩, h1, h2, h3, h4, h5⟩, he⟩, hg⟩ := h
  exact ⟨⟨E, ⟨⟨D, f, hP D f hp, h0⟩, h1, h2, h3, h4, h5⟩, he⟩, hg⟩
theorem GrS.tree {rs N dd : Nat} (h : GrS rs fb hb xb N dd P K T lim w0 w) : ∃ D, TreeOk N K D T := by
  obtain ⟨⟨E, ⟨⟨D, f, hp, h0⟩, h1, h2, h3, h4, h5⟩, he⟩, hg⟩ := h
  rw [<- h4]
  exact ⟨D, h0.tree⟩
theorem bytesC_any {a b : Nat} {v : Value} {zs : List Int} (h : BytesC a w v zs) (hb : ∀ j, w.cell? ⟨b, j, none⟩ = none) : BytesC b w v zs := by
  obtain ⟨c, cap, e, h1, h2, h3, h4, hc⟩ := h
  refine ⟨c, cap, e, h1, h2, h3, h4, fun hne => ?_⟩
  obtain ⟨x, off, ea, hx, -, hk⟩ := hc hne
  refine ⟨x, off, ea, hx, fun eb => ?_, hk⟩
  subst eb
  have := hk 0 (List.length_pos_iff.2 hne)
  rw [hb] at this
  cases this
theorem GrR.bytes {rs N dd a : Nat} {E : TE} (h : GrR rs fb hb xb N dd P K T lim E w) {v : Value} {zs : List Int} (hv : BytesC a w v zs) : BytesC E.mb w v zs := by
  obtain ⟨D, f, -, hz⟩ := h.st
  exact bytesC_any hv (fun j => hz.s.to.mapNo j)
theorem GrS.fb_lt {rs N dd : Nat} (h : GrS rs fb hb xb N dd P K T lim w0 w) : fb < w.heap.size := by
  obtain ⟨⟨E, ⟨⟨D, f, hp, h0⟩, h1, h2, h3, h4, h5⟩, he⟩, hg⟩ := h
  exact h0.at_.lt
theorem MvI.low (h : MvI n d m K T) {x : Nat} (x1 : 1 <= x) (x2 : x <= dI n d + m) (hm : m <= n) : K x ≠ 0 := by
  by_cases e : x = 1
  · subst e; rw [h.root]; decide
  · obtain ⟨i, k, hi, hk, rfl⟩ := dI_split (n := n) (d := d) (x := x) (by omega) (by omega)
    rcases Nat.eq_zero_or_pos k with e | e
    · subst e; rw [Nat.add_zero, h.dir i hi]; decide
    · have := h.file i (k - 1) hi (by omega) (fun e' => by subst e'; omega)
      rw [show dI n i + 1 + (k - 1) = dI n i + k by omega] at this
      rw [this.1]; decide
def MvS (fb hb xb n d m lim : Nat) (w0 w : World) : Prop := ∃ K T, MvI n d m K T /\ GrS 2 fb hb xb 60 123 (mvP n d m) K T lim w0 w
def MvH (fb hb xb n : Nat) : Nat -> Nat -> World -> World -> Prop
  | 0, lim, w0, w => GrS 2 fb hb xb 60 123 (fun _ f => f = 123) rootK (fun _ => []) lim w0 w
  | i + 1, lim, w0, w => MvS fb hb xb n i n lim w0 w
theorem MvS.x1 (h : MvS fb hb xb n d m lim w0 w) : w.cell? ⟨xb, 1, none⟩ = some (ptr fb) := by
  obtain ⟨K, T, -, h2⟩ := h
  exact h2.x1
theorem MvS.below (h : MvS fb hb xb n d m lim w0 w) (hB : Below w.heap.size w w') : MvS fb hb xb n d m lim w0 w' := by
  obtain ⟨K, T, h1, h2⟩ := h
  exact ⟨K, T, h1, h2.below hB⟩
theorem MvS.up {lim' : Nat} (h : MvS fb hb xb n d m lim w0 w) (hl : lim <= lim') : MvS fb hb xb n d m lim' w0 w := by
  obtain ⟨K, T, h1, h2⟩ := h
  exact ⟨K, T, h1, h2.up hl⟩
theorem MvH.x1 {i : Nat} (h : MvH fb hb xb n i lim w0 w) : w.cell? ⟨xb, 1, none⟩ = some (ptr fb) := by
  cases i with
  | zero => exact GrS.x1 h
  | succ i => exact MvS.x1 h
theorem MvH.up {i lim' : Nat} (h : MvH fb hb xb n i lim w0 w) (hl : lim <= lim') : MvH fb hb xb n i lim' w0 w := by
  cases i with
  | zero => exact GrS.up h hl
  | succ i => exact MvS.up h hl
theorem mv_new {E : TE} (hN : New11 280 60 2 123 w0 E fb hb xb w) (hg : GT w0) : MvH fb hb xb n 0 6000 w0 w := gr_new hN hg rfl
theorem mv_mkdir {i : Nat} (h : MvH fb hb xb n i lim w0 w) (hn : n <= 7) (hi : i <= 4) (hlim : lim <= 300000000) :
    Calls Tryz.prog 6 #[ptr fb, .string (mkB (pathD (i + 1)))] w fun e w' => e = .returned .nilIface /\ MvS fb hb xb n i 0 (lim + 1000) w0 w' := by
  cases i with
  | zero =>
    have h' : GrS 2 fb hb xb 60 123 (fun _ f => f = 123) rootK (fun _ => []) lim w0 w := h
    refine (gr_mkdir h' (s := [100]) (l := []) (p := 1) (id := 2) (P' := mvP n 0 0) (by decide) (by exact pathD_split (i := 1) (by omega) (by omega)) (by rfl) (by rfl) (by simp) (by omega) (by omega) (by rfl) rfl (fun i a b => by have e : i = 1 := (by omega); rw [e]; decide) (fun D f hf => by omega) (fun D f f' hf hD e => ?_) hlim).mono ?_
    · have b0 := bk_step ⟨0, by omega⟩
      simp only [List.length_nil] at e b0
      refine ⟨?_, fun i k a b c => absurd (c (by omega)) (by omega)⟩
      show 125 <= f' + 2 * (2 + 0)
      omega
    · rintro e w' ⟨rfl, hS⟩
      refine ⟨rfl, _, _, ?_, hS⟩
      refine ⟨by rfl, by rfl, fun i hi => ?_, fun i hi => absurd hi (by omega), by rfl, fun i k a b c => absurd (c (by omega)) (by omega), fun x hx => ?_⟩
      · obtain rfl : i = 0 := by omega
        rfl
      · have hx' : 2 + 0 < x := hx
        refine ⟨?_, ?_⟩
        · unfold rootK
          rw [upd_other _ _ (by omega), upd_other _ _ (by omega)]
        · rw [upd_other _ _ (by omega)]
  | succ j =>
    obtain ⟨K, T, hM, hS⟩ := (show MvS fb hb xb n j n lim w0 w from h)
    have hle := dI_le (n := n) (d := j) hn
    have h2 := dI_two n j
    have hs : dI n (j + 1) = dI n j + n + 1 := rfl
    have hlen : (T (dI n j)).length = n := by rw [hM.last, fsR_len]
    refine (gr_mkdir hS (s := [100]) (l := List.replicate (j + 1) [100]) (p := dI n j) (id := dI n (j + 1)) (P' := mvP n (j + 1) 0) (by rw [pathD_len]; omega) (by rw [pathD_split (by omega) (by omega), List.replicate_succ']) (hM.dirT (Nat.le_refl _)) (lookN (by rw [hM.last]; exact fsR_nod)) (by rw [hlen]; omega) (by omega) (by omega) (hM.free _ (by omega)).1 (hM.free _ (by omega)).2 (fun x x1 x2 => hM.low x1 (by omega) (Nat.le_refl _)) (fun D f hf => by have := hf.1; omega) (fun D f f' hf hD e => ?_) hlim).mono ?_
    · have b0 := bk_step ⟨n, by omega⟩
      rw [hlen] at e
      simp only [] at b0
      refine ⟨by have := hf.1; omega, fun i k a b c => ?_⟩
      have hij : i <= j := by
        rcases Nat.lt_or_ge j i with h' | h'
        · have := c (by omega); omega
        · exact h'
      rw [upd_other _ _ (dI_fne b)]
      exact hf.2 i k hij b (fun _ => b)
    · rintro e w' ⟨rfl, hS'⟩
      exact ⟨rfl, _, _, hM.mkdir, hS'⟩
theorem mv_put (h : MvS fb hb xb n d m lim w0 w) (hn : n <= 7) (hd : d <= 4) (hm : m < n) {a : Nat} {bv : Value} (hbv : BytesC a w bv (fileB d)) (hlim : lim <= 300000000) :
    Calls Tryz.prog 8 #[ptr fb, .string (mkB (pathD (d + 1) ++ 47 :: nmP 102 m)), bv] w fun e w' => e = .returned .nilIface /\ MvS fb hb xb n d (m + 1) (lim + 1000) w0 w' := by
  obtain ⟨K, T, hM, hS⟩ := h
  have hle := dI_le (n := n) (d := d) hn
  have h2 := dI_two n d
  have hlen : (T (dI n d)).length = m := by rw [hM.last, fsR_len]
  have hfl := fileB_len d
  have hnm : (nmP 102 m).length <= 30 := by
    have := nm_size (i := m) (by omega)
    have e : (itoaB (m : Int)).size = (Lib.itoa (m : Int)).length := by simp [itoaB, ByteArray.size]
    show (Lib.itoa (m : Int)).length + 1 <= 30
    omega
  refine (gr_put hS (s := nmP 102 m) (l := List.replicate (d + 1) [100]) (p := dI n d) (id := dI n d + 1 + m) (P' := mvP n d (m + 1)) (fun E hR => hR.bytes hbv) (by omega) (by rw [List.length_append, pathD_len, List.length_cons]; omega) (pathD_file (by omega) (by omega)) (hM.dirT (Nat.le_refl _)) (lookN (by rw [hM.last]; exact fsR_no (Nat.le_refl _) (by omega))) (by rw [hlen]; omega) (by omega) (by omega) (hM.free _ (by omega)).1 (fun x x1 x2 => hM.low x1 (by omega) (by omega)) (bn := 1) (by rw [hfl]; unfold growb blk; split <;> split <;> omega) (fun D f hf => by have := hf.1; omega) (fun D f f' hf hD e => ?_) hlim).mono ?_
  · have b0 := bk_step ⟨m, by omega⟩
    rw [hlen] at e
    simp only [] at b0
    refine ⟨by have := hf.1; omega, fun i k a b c => ?_⟩
    by_cases e1 : dI n i + 1 + k = dI n d + 1 + m
    · obtain ⟨rfl, rfl⟩ := dI_finj b hm e1
      rw [upd_same]
    · rw [upd_other _ _ e1, upd_other _ _ (dI_fne b)]
      exact hf.2 i k a b (fun e' => by subst e'; have := c rfl; omega)
  · rintro e w' ⟨rfl, hS'⟩
    exact ⟨rfl, _, _, hM.put hm, hS'⟩
def MvW (fb hb xb n d sh lim : Nat) (Q : (Nat -> List Int) -> Nat -> Prop) (w0 w : World) : Prop := ∃ K T, MvF n d (dI n d + n + 1) sh K T /\ GrS 2 fb hb xb 60 123 Q K T lim w0 w
def mvQ (n d : Nat) (D : Nat -> List Int) (f : Nat) : Prop := 4 <= f /\ mvB n d D
theorem MvW.x1 {sh : Nat} {Q : (Nat -> List Int) -> Nat -> Prop} (h : MvW fb hb xb n d sh lim Q w0 w) : w.cell? ⟨xb, 1, none⟩ = some (ptr fb) := by
  obtain ⟨K, T, -, h2⟩ := h
  exact h2.x1
theorem MvW.below {sh : Nat} {Q : (Nat -> List Int) -> Nat -> Prop} (h : MvW fb hb xb n d sh lim Q w0 w) (hB : Below w.heap.size w w') : MvW fb hb xb n d sh lim Q w0 w' := by
  obtain ⟨K, T, h1, h2⟩ := h
  exact ⟨K, T, h1, h2.below hB⟩
theorem MvW.up {sh lim' : Nat} {Q : (Nat -> List Int) -> Nat -> Prop} (h : MvW fb hb xb n d sh lim Q w0 w) (hl : lim <= lim') : MvW fb hb xb n d sh lim' Q w0 w := by
  obtain ⟨K, T, h1, h2⟩ := h
  exact ⟨K, T, h1, h2.up hl⟩
theorem MvW.is {sh : Nat} {Q : (Nat -> List Int) -> Nat -> Prop} (h : MvW fb hb xb n d sh lim Q w0 w) {op nm : ByteArray} {k : Int} {ev : Value} (he : ErN op nm k ev w) (hk : (k == 0) = false) :
    Calls Tryz.prog 18 #[ev, .string op, .string nm, .int .i64 k] w fun e w' => e = .returned (.bool true) /\ MvW fb hb xb n d sh lim Q w0 w' := by
  obtain ⟨K, T, h1, h2⟩ := h
  refine (gr_is h2 he hk).mono ?_
  rintro e w' ⟨rfl, h3⟩
  exact ⟨rfl, K, T, h1, h3⟩
theorem mv_to (h : MvH fb hb xb n (d + 1) lim w0 w) (hn : n <= 7) (hd : d <= 4) (hlim : lim <= 300000000) :
    Calls Tryz.prog 6 #[ptr fb, .string ⟨#[47, 116, 111]⟩] w fun e w' => e = .returned .nilIface /\ MvW fb hb xb n d 0 (lim + 1000) (mvQ n d) w0 w' := by
  obtain ⟨K, T, hM, hS⟩ := (show MvS fb hb xb n d n lim w0 w from h)
  have hle := dI_le (n := n) (d := d) hn
  have h2 := dI_two n d
  have hlen : (T 1).length = 1 := by rw [hM.t1]; rfl
  refine (gr_mkdir hS (path := [47, 116, 111]) (s := [116, 111]) (l := []) (p := 1) (id := dI n d + n + 1) (P' := mvQ n d) (by decide) (by decide) (by unfold dirT; exact if_pos hM.root) (by rw [hM.t1]; rfl) (by rw [hlen]; omega) (by omega) (by omega) (hM.free _ (by omega)).1 (hM.free _ (by omega)).2 (fun x x1 x2 => hM.low x1 (by omega) (Nat.le_refl _)) (fun D f hf => by have := hf.1; omega) (fun D f f' hf hD e => ?_) hlim).mono ?_
  · have b0 := bk_step ⟨1, by omega⟩
    rw [hlen] at e
    simp only [] at b0
    refine ⟨by have := hf.1; omega, fun i k a b => ?_⟩
    have := dI_two n i
    rw [upd_other _ _ (by omega)]
    exact hf.2 i k a b (fun _ => b)
  · rintro e w' ⟨rfl, hS'⟩
    exact ⟨rfl, _, _, hM.to rfl, hS'⟩
theorem MvF.at0 {top : Nat} (h : MvF n d top 0 K T) : (T 1)[0]? = some ⟨[100], 2⟩ := by rw [h.t1]; rfl
theorem mv_loop (h : MvW fb hb xb n d 0 lim (mvQ n d) w0 w) :
    Calls Tryz.prog 19 #[ptr fb, .string ⟨#[47, 100]⟩, .string ⟨#[47, 100, 47, 105, 110]⟩] w fun e w' => ∃ ev, e = .returned ev /\ ErN sRename ⟨#[47, 100]⟩ 20 ev w' /\ MvW fb hb xb n d 0 lim (mvQ n d) w0 w' := by
  obtain ⟨K, T, hM, hS⟩ := h
  refine (gr_loop hS (a := [47, 100]) (b := [47, 100, 47, 105, 110]) (s := [100]) (t := [105, 110]) (l := []) (l2 := [[100]]) (p := 1) (i := 0) (r := ⟨[100], 2⟩) (lv := []) ⟨by decide, by decide, by decide, by decide, by decide, by decide, by unfold dirT; exact if_pos hM.root, hM.at0, rfl⟩).mono ?_
  rintro e w' ⟨ev, rfl, he, hS'⟩
  exact ⟨ev, rfl, he, K, T, hM, hS'⟩
theorem mv_deep (h : MvW fb hb xb n d 0 lim (mvQ n d) w0 w) (hn : n <= 7) (hd : d <= 4) (hdeep : 6 < d + 2 + (if n = 0 then 0 else 1)) :
    Calls Tryz.prog 19 #[ptr fb, .string ⟨#[47, 100]⟩, .string ⟨#[47, 116, 111, 47, 101]⟩] w fun e w' => ∃ ev, e = .returned ev /\ ErN sRename ⟨#[47, 100]⟩ 10 ev w' /\ MvW fb hb xb n d 0 lim (fun D _ => mvB n d D) w0 w' := by
  obtain ⟨K, T, hM, hS⟩ := h
  have hle := dI_le (n := n) (d := d) hn
  obtain ⟨D, ht⟩ := hS.tree
  obtain ⟨lv, hlv, hll⟩ := hM.levels ht (by omega) (by split <;> omega)
  refine (gr_deep hS (a := [47, 100]) (b := [47, 116, 111, 47, 101]) (s := [100]) (t := [101]) (l := []) (l2 := [[116, 111]]) (p := 1) (i := 0) (r := ⟨[100], 2⟩) (lv := lv) ⟨by decide, by decide, by decide, by decide, by decide, by decide, by unfold dirT; exact if_pos hM.root, hM.at0, rfl, hlv, by rw [hll]; split <;> omega, by rw [hll]; show 8 <= 1 + 1 + _; omega⟩).mono ?_
  rintro e w' ⟨ev, rfl, he, hS'⟩
  exact ⟨ev, rfl, he, K, T, hM, hS'.imp (fun _ _ hq => hq.2)⟩
theorem mv_move (h : MvW fb hb xb n d 0 lim (mvQ n d) w0 w) (hn : n <= 7) (hd : d <= 4) (hdeep : d + 2 + (if n = 0 then 0 else 1) <= 6) (hlim : lim <= 300000000) :
    Calls Tryz.prog 19 #[ptr fb, .string ⟨#[47, 100]⟩, .string ⟨#[47, 116, 111, 47, 101]⟩] w fun e w' => e = .returned .nilIface /\ MvW fb hb xb n d 1 (lim + 1000) (fun D _ => mvB n d D) w0 w' := by
  obtain ⟨K, T, hM, hS⟩ := h
  have hle := dI_le (n := n) (d := d) hn
  have h2 := dI_two n d
  obtain ⟨D, ht⟩ := hS.tree
  obtain ⟨lv, hlv, hll⟩ := hM.levels ht (by omega) (by split <;> omega)
  have htop : T (dI n d + n + 1) = [] := by rw [hM.tto]; rfl
  refine (gr_enter hS (a := [47, 100]) (b := [47, 116, 111, 47, 101]) (s := [100]) (t := [101]) (l := []) (l2 := [[116, 111]]) (p := 1) (q := dI n d + n + 1) (i := 0) (r := ⟨[100], 2⟩) (lv := lv) (P' := fun D _ => mvB n d D) ⟨by decide, by decide, by decide, by decide, by decide, by decide, by unfold dirT; exact if_pos hM.root, ?_, hM.at0, rfl, by rw [htop]; rfl, hlv, by rw [hll]; show 1 + 1 + _ <= 7; omega, by rw [htop]; decide, by omega, by simp⟩ (fun D f hf => hf.1) (fun D f f' hf e => fun i k a b => ?_) hlim).mono ?_
  · have hl : lookT (T 1) [116, 111] = some ⟨[116, 111], dI n d + n + 1⟩ := by rw [hM.t1]; rfl
    have hw : walkT K T 1 [[116, 111]] = .ok (dI n d + n + 1) := by
      unfold walkT
      rw [if_pos hM.root, hl]
      rfl
    unfold dirT
    rw [hw]
    exact if_pos hM.kto
  · have h3 := dI_two n i
    have h4 := dI_flt a b
    rw [upd_other _ _ (by omega), upd_other _ _ (by omega)]
    exact hf.2 i k a b
  · rintro e w' ⟨rfl, hS'⟩
    exact ⟨rfl, _, _, hM.enter, hS'⟩
def pathS (sh : Nat) : Nat -> List UInt8
  | 0 => if sh = 0 then [47, 100] else [47, 116, 111, 47, 101]
  | i + 1 => pathS sh i ++ [47, 100]
theorem pathS0 : ∀ i, pathS 0 i = pathD (i + 1)
  | 0 => rfl
  | i + 1 => by
    rw [pathD_succ, <- pathS0 i]
    rfl
theorem pathS1 : ∀ i, pathS 1 i = [47, 116, 111, 47, 101] ++ pathD i
  | 0 => rfl
  | i + 1 => by
    rw [pathD_succ, <- List.append_assoc, <- pathS1 i]
    rfl
theorem pathS_len (sh : Nat) : ∀ i, (pathS sh i).length <= 5 + 2 * i
  | 0 => by unfold pathS; split <;> simp
  | i + 1 => by
    have := pathS_len sh i
    show (pathS sh i ++ [47, 100]).length <= _
    rw [List.length_append]
    simp
    omega
def namesS (sh i : Nat) : List (List UInt8) := if sh = 0 then List.replicate (i + 1) [100] else [116, 111] :: [101] :: List.replicate i [100]
theorem pathS_split {sh i : Nat} (hs : sh = 0 \/ sh = 1) (h4 : i <= 4) : splitB (pathS sh i) = some (namesS sh i) := by
  rcases hs with rfl | rfl
  · rw [pathS0]; exact pathD_split (by omega) (by omega)
  · rw [pathS1]; exact pathT_split h4
theorem pathS_file {sh i k : Nat} (hs : sh = 0 \/ sh = 1) (h4 : i <= 4) (h3 : sh = 1 -> i <= 3) (hk : k < 128) : splitB (pathS sh i ++ 47 :: nmP 102 k) = some (namesS sh i ++ [nmP 102 k]) := by
  rcases hs with rfl | rfl
  · rw [pathS0]; exact pathD_file (by omega) hk
  · rw [pathS1]; exact pathT_file (h3 rfl) hk
theorem MvF.walkS {top sh i : Nat} (h : MvF n d top sh K T) (hi : i <= d) : walkT K T 1 (namesS sh i) = .ok (dI n i) := by
  rcases h.sh_ with rfl | rfl
  · exact h.walk0 hi
  · exact h.walk1 hi
theorem mv_list {sh i : Nat} (h : MvW fb hb xb n d sh lim (fun D _ => mvB n d D) w0 w) (hn : n <= 7) (hd : d <= 4) (hi : i <= d) (hlim : lim <= 300000000) :
    Calls Tryz.prog 20 #[ptr fb, .string (mkB (pathS sh i))] w fun e w' => (∃ a c, e = .returned (.tuple #[.slice a (n + (if i < d then 1 else 0)) c, .nilIface])) /\ MvW fb hb xb n d sh (lim + 1000) (fun D _ => mvB n d D) w0 w' := by
  obtain ⟨K, T, hM, hS⟩ := h
  have hl := pathS_len sh i
  refine (gr_list hS (by omega) (pathS_split hM.sh_ (by omega)) (hM.walkS hi) (hM.dir i hi) hlim).mono ?_
  rintro e w' ⟨⟨v, rfl, hV⟩, hS'⟩
  obtain ⟨a, c, rfl⟩ := hV.form
  refine ⟨⟨a, c, ?_⟩, K, T, hM, hS'⟩
  rw [names_len, hM.full i hi, List.length_append, fsR_len]
  split <;> rfl
theorem mv_get {sh i k : Nat} (h : MvW fb hb xb n d sh lim (fun D _ => mvB n d D) w0 w) (hn : n <= 7) (hd : d <= 4) (hi : i <= d) (h3 : sh = 1 -> i <= 3) (hk : k < n) (hlim : lim <= 300000000) :
    Calls Tryz.prog 21 #[ptr fb, .string (mkB (pathS sh i ++ 47 :: nmP 102 k))] w fun e w' => (∃ a c, e = .returned (.tuple #[.slice a (2 * (i + 1)) c, .nilIface])) /\ MvW fb hb xb n d sh (lim + 1000) (fun D _ => mvB n d D) w0 w' := by
  obtain ⟨K, T, hM, hS⟩ := h
  have hl := pathS_len sh i
  have hnm : (nmP 102 k).length <= 30 := by
    have := nm_size (i := k) (by omega)
    have e : (itoaB (k : Int)).size = (Lib.itoa (k : Int)).length := by simp [itoaB, ByteArray.size]
    show (Lib.itoa (k : Int)).length + 1 <= 30
    omega
  refine (gr_get hS (zs := fileB i) (q := dI n i + 1 + k) (by rw [List.length_append, List.length_cons]; omega) (pathS_file hM.sh_ (by omega) h3 (by omega)) (walk_snoc (hM.dir i hi) (hM.look hi hk (by omega)) _ _ (hM.walkS hi)) (hM.file i k hi hk) (fun D f hq => hq i k hi hk) hlim).mono ?_
  rintro e w' ⟨⟨v, rfl, hV⟩, hS'⟩
  have hfl := fileB_len i
  obtain ⟨b, c, rfl, -⟩ := hV.form (fun e => by rw [e] at hfl; simp at hfl)
  refine ⟨⟨some ⟨b, 0, none⟩, c, ?_⟩, K, T, hM, hS'⟩
  rw [hfl]
theorem mv_check {sh : Nat} (h : MvW fb hb xb n d sh lim (fun D _ => mvB n d D) w0 w) (hn : n <= 7) (hd : d <= 4) (hfew : d + sh + 1 + (if n = 0 then 0 else 1) <= 6) (hlim : lim <= 300000000) :
    Calls Tryz.prog 14 #[ptr fb] w fun e w' => e = .returned .nilIface /\ Below w0.heap.size w0 w' /\ Ground w' /\ GT w' := by
  obtain ⟨K, T, hM, hS⟩ := h
  have hle := dI_le (n := n) (d := d) hn
  refine (gr_check hS (hM.rank 60 (by omega) hfew) (by omega) hlim).mono ?_
  rintro e w' ⟨rfl, hS'⟩
  exact ⟨rfl, hS'.bel, hS'.ground, hS'.gt⟩
end
end Go.Proofs.YtleafmdjhmnjmaaGreatDoor
