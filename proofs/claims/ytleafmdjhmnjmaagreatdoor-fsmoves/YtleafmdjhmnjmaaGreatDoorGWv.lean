/- FsMoves: its tree while it is made: directories one in the other, files in each. -/
import Derived.Test.YtleafmdjhmnjmaaGreatDoorGWq
import Derived.Test.YtleafmdjhmnjmaaGreatDoorGWr
namespace Go.Proofs.YtleafmdjhmnjmaaGreatDoor
open Go.RowKit Go.Extern.Stop Go.Stop Go.Extern Go.Maps Go.Sort Go.Shelf
set_option maxRecDepth 100000
def dI (n : Nat) : Nat -> Nat
  | 0 => 2
  | i + 1 => dI n i + n + 1
theorem dI_lt {n i j : Nat} (h : i < j) : dI n i + n < dI n j := by
  obtain ⟨k, rfl⟩ : ∃ k, j = i + 1 + k := ⟨j - (i + 1), by omega⟩
  induction k with
  | zero => show dI n i + n < dI n i + n + 1; omega
  | succ k ih =>
    have := ih (by omega)
    show dI n i + n < dI n (i + 1 + k) + n + 1
    omega
theorem dI_two (n i : Nat) : 2 <= dI n i := by
  rcases Nat.eq_zero_or_pos i with rfl | h
  · exact Nat.le_refl _
  · have := dI_lt (n := n) h
    have : dI n 0 = 2 := rfl
    omega
theorem dI_inj {n i j : Nat} (h : dI n i = dI n j) : i = j := by
  rcases Nat.lt_trichotomy i j with h' | h' | h'
  · have := dI_lt (n := n) h'; omega
  · exact h'
  · have := dI_lt (n := n) h'; omega
def fsR (b m : Nat) : List Rec := (List.range m).map fun k => ⟨nmP 102 k, b + 1 + k⟩
theorem fsR_succ (b m : Nat) : fsR b (m + 1) = fsR b m ++ [⟨nmP 102 m, b + 1 + m⟩] := by simp [fsR, List.range_succ]
theorem fsR_len (b m : Nat) : (fsR b m).length = m := by simp [fsR]
theorem fsR_mem {b m : Nat} {r : Rec} (h : r ∈ fsR b m) : ∃ k, k < m /\ r = ⟨nmP 102 k, b + 1 + k⟩ := by
  obtain ⟨k, hk, rfl⟩ := List.mem_map.1 h
  exact ⟨k, List.mem_range.1 hk, rfl⟩
theorem fsR_no {b m k : Nat} (hm : m <= k) (hk : k < 128) : ∀ r ∈ fsR b m, r.s ≠ nmP 102 k := by
  intro r hr e
  obtain ⟨j, hj, rfl⟩ := fsR_mem hr
  have := nm_inj (c := 102) (i := j) (j := k) (by omega) hk e
  omega
theorem fsR_nod {b m : Nat} : ∀ r ∈ fsR b m, r.s ≠ [100] := by
  intro r hr e
  obtain ⟨j, hj, rfl⟩ := fsR_mem hr
  exact absurd (List.cons.inj e).1 (by decide)
structure MvI (n d m : Nat) (K : Nat -> Nat) (T : Nat -> List Rec) : Prop where
  root : K 1 = 2
  t1 : T 1 = [⟨[100], 2⟩]
  dir : ∀ i, i <= d -> K (dI n i) = 2
  full : ∀ i, i < d -> T (dI n i) = fsR (dI n i) n ++ [⟨[100], dI n (i + 1)⟩]
  last : T (dI n d) = fsR (dI n d) m
  file : ∀ i k, i <= d -> k < n -> (i = d -> k < m) -> K (dI n i + 1 + k) = 1 /\ T (dI n i + 1 + k) = []
  free : ∀ x, dI n d + m < x -> K x = 0 /\ T x = []
section
variable {n d m : Nat} {K : Nat -> Nat} {T : Nat -> List Rec}
theorem MvI.put (h : MvI n d m K T) (hm : m < n) : MvI n d (m + 1) (upd K (dI n d + 1 + m) 1) (upd T (dI n d) (T (dI n d) ++ [⟨nmP 102 m, dI n d + 1 + m⟩])) := by
  have h2 := dI_two n d
  have hne : ∀ i, i <= d -> dI n i ≠ dI n d + 1 + m := fun i hi => by
    rcases Nat.lt_or_ge i d with h' | h'
    · have := dI_lt (n := n) h'; omega
    · obtain rfl : i = d := by omega
      omega
  refine ⟨by rw [upd_other _ _ (by omega)]; exact h.root, by rw [upd_other _ _ (by omega)]; exact h.t1, fun i hi => by rw [upd_other _ _ (hne i hi)]; exact h.dir i hi, fun i hi => ?_, by rw [upd_same, h.last, fsR_succ], fun i k hi hk hd => ?_, fun x hx => ?_⟩
  · have := dI_lt (n := n) hi
    rw [upd_other _ _ (by omega)]
    exact h.full i hi
  · by_cases e : dI n i + 1 + k = dI n d + 1 + m
    · rw [e, upd_same, upd_other _ _ (by omega)]
      exact ⟨rfl, (h.free _ (by omega)).2⟩
    · have hx : dI n i + 1 + k ≠ dI n d := by
        rcases Nat.lt_or_ge i d with h' | h'
        · have := dI_lt (n := n) h'; omega
        · obtain rfl : i = d := by omega
          omega
      rw [upd_other _ _ e, upd_other _ _ hx]
      exact h.file i k hi hk (fun e' => by subst e'; have := hd rfl; omega)
  · rw [upd_other _ _ (by omega), upd_other _ _ (by omega)]
    exact h.free x (by omega)
theorem MvI.mkdir (h : MvI n d n K T) : MvI n (d + 1) 0 (upd K (dI n (d + 1)) 2) (upd T (dI n d) (T (dI n d) ++ [⟨[100], dI n (d + 1)⟩])) := by
  have h2 := dI_two n d
  have hs : dI n (d + 1) = dI n d + n + 1 := rfl
  have hlt : ∀ i, i <= d -> dI n i + n < dI n (d + 1) := fun i hi => dI_lt (by omega)
  refine ⟨by rw [upd_other _ _ (by omega)]; exact h.root, by rw [upd_other _ _ (by omega)]; exact h.t1, fun i hi => ?_, fun i hi => ?_, ?_, fun i k hi hk hd => ?_, fun x hx => ?_⟩
  · by_cases e : i = d + 1
    · rw [e, upd_same]
    · have := hlt i (by omega)
      rw [upd_other _ _ (by omega)]
      exact h.dir i (by omega)
  · by_cases e : i = d
    · subst e
      rw [upd_same, h.last]
    · have := dI_lt (n := n) (show i < d by omega)
      rw [upd_other _ _ (by omega)]
      exact h.full i (by omega)
  · rw [upd_other _ _ (by omega), (h.free _ (by omega)).2]
    rfl
  · have hid : i <= d := by
      rcases Nat.lt_or_ge d i with h' | h'
      · have e : i = d + 1 := by omega
        have := hd e
        omega
      · exact h'
    have := hlt i hid
    have hx : dI n i + 1 + k ≠ dI n d := by
      rcases Nat.lt_or_ge i d with h' | h'
      · have := dI_lt (n := n) h'; omega
      · obtain rfl : i = d := by omega
        omega
    rw [upd_other _ _ (by omega), upd_other _ _ hx]
    exact h.file i k hid hk (fun _ => hk)
  · rw [upd_other _ _ (by omega), upd_other _ _ (by omega)]
    exact h.free x (by omega)
theorem MvI.down (h : MvI n d m K T) : ∀ i j, i + j <= d -> walkT K T (dI n i) (List.replicate j [100]) = .ok (dI n (i + j))
  | i, 0, _ => rfl
  | i, j + 1, hij => by
    have hk := h.dir i (by omega)
    have hl : lookT (T (dI n i)) [100] = some ⟨[100], dI n (i + 1)⟩ := by
      rw [h.full i (by omega)]
      unfold lookT
      rw [List.find?_append, List.find?_eq_none.2 (fun r hr => by simpa using fsR_nod r hr)]
      rfl
    show walkT K T (dI n i) ([100] :: List.replicate j [100]) = _
    unfold walkT
    rw [if_pos hk, hl]
    have := h.down (i + 1) j (by omega)
    rw [show i + (j + 1) = i + 1 + j by omega]
    exact this
theorem MvI.walk (h : MvI n d m K T) {j : Nat} (hj : j <= d) : walkT K T 1 (List.replicate (j + 1) [100]) = .ok (dI n j) := by
  show walkT K T 1 ([100] :: List.replicate j [100]) = _
  unfold walkT
  rw [if_pos h.root, h.t1]
  have := h.down 0 j (by omega)
  rw [Nat.zero_add] at this
  exact this
theorem MvI.dirT (h : MvI n d m K T) {j : Nat} (hj : j <= d) : dirT K T (List.replicate (j + 1) [100]) = .ok (dI n j) := by
  unfold Proofs.YtleafmdjhmnjmaaGreatDoor.dirT
  rw [h.walk hj]
  exact if_pos (h.dir j hj)
end
theorem dI_split {n d x : Nat} (h2 : 2 <= x) (hx : x <= dI n d + n) : ∃ i k, i <= d /\ k <= n /\ x = dI n i + k := by
  induction d with
  | zero =>
    have h0 : dI n 0 = 2 := rfl
    exact ⟨0, x - 2, Nat.le_refl _, by omega, by omega⟩
  | succ d ih =>
    have hs : dI n (d + 1) = dI n d + n + 1 := rfl
    rcases Nat.lt_or_ge x (dI n (d + 1)) with h | h
    · obtain ⟨i, k, h1, h3, h4⟩ := ih (by omega)
      exact ⟨i, k, by omega, h3, h4⟩
    · exact ⟨d + 1, x - dI n (d + 1), Nat.le_refl _, by omega, by omega⟩
def cntD (n x : Nat) : Nat -> Nat
  | 0 => 0
  | j + 1 => cntD n x j + if dI n j < x then 1 else 0
theorem cntD_eq {n x c : Nat} : ∀ k, c <= k -> (∀ j, j < k -> (dI n j < x <-> j < c)) -> cntD n x k = c
  | 0, hc, _ => by unfold cntD; omega
  | k + 1, hc, h => by
    unfold cntD
    have hk := h k (by omega)
    rcases Nat.lt_or_ge k c with h' | h'
    · obtain rfl : c = k + 1 := by omega
      rw [if_pos (hk.2 h')]
      have : ∀ j, j < k -> (dI n j < x <-> j < k) := fun j hj => ⟨fun _ => hj, fun _ => (h j (by omega)).2 (by omega)⟩
      rw [cntD_eq k (Nat.le_refl _) this]
    · rw [if_neg (fun e => by have := hk.1 e; omega), cntD_eq k h' (fun j hj => h j (by omega)), Nat.add_zero]
def rkM (n d top sh x : Nat) : Nat := if x = 1 then 0 else if x = top then 1 else sh + 1 + cntD n x (d + 1)
theorem rkM_dir {n d top sh i : Nat} (hi : i <= d) (ht : top = dI n d + n + 1) : rkM n d top sh (dI n i) = sh + 1 + i := by
  have h2 := dI_two n i
  have hlt : dI n i ≠ top := by
    rcases Nat.lt_or_ge i d with h | h
    · have := dI_lt (n := n) h; omega
    · obtain rfl : i = d := by omega
      omega
  unfold rkM
  rw [if_neg (by omega), if_neg hlt, cntD_eq (c := i) (d + 1) (by omega) (fun j hj => ?_)]
  constructor
  · intro h
    rcases Nat.lt_or_ge j i with h' | h'
    · exact h'
    · rcases Nat.lt_or_ge i j with h'' | h''
      · have := dI_lt (n := n) h''; omega
      · obtain rfl : i = j := by omega
        omega
  · intro h
    have := dI_lt (n := n) h
    omega
theorem rkM_file {n d top sh i k : Nat} (hi : i <= d) (hk : k < n) (ht : top = dI n d + n + 1) : rkM n d top sh (dI n i + 1 + k) = sh + 2 + i := by
  have h2 := dI_two n i
  have hlt : dI n i + 1 + k ≠ top := by
    rcases Nat.lt_or_ge i d with h | h
    · have := dI_lt (n := n) h; omega
    · obtain rfl : i = d := by omega
      omega
  unfold rkM
  rw [if_neg (by omega), if_neg hlt, cntD_eq (c := i + 1) (d + 1) (by omega) (fun j hj => ?_)]
  · omega
  constructor
  · intro h
    rcases Nat.lt_or_ge i j with h' | h'
    · have := dI_lt (n := n) h'; omega
    · omega
  · intro h
    rcases Nat.lt_or_ge j i with h' | h'
    · have := dI_lt (n := n) h'; omega
    · obtain rfl : j = i := by omega
      omega
structure MvF (n d top sh : Nat) (K : Nat -> Nat) (T : Nat -> List Rec) : Prop where
  top_ : top = dI n d + n + 1
  sh_ : sh = 0 \/ sh = 1
  root : K 1 = 2
  kto : K top = 2
  dir : ∀ i, i <= d -> K (dI n i) = 2
  file : ∀ i k, i <= d -> k < n -> K (dI n i + 1 + k) = 1
  t1 : T 1 = (if sh = 0 then [⟨[100], 2⟩] else []) ++ [⟨[116, 111], top⟩]
  tto : T top = if sh = 0 then [] else [⟨[101], 2⟩]
  full : ∀ i, i <= d -> T (dI n i) = fsR (dI n i) n ++ (if i < d then [⟨[100], dI n (i + 1)⟩] else [])
  free : ∀ x, top < x -> K x = 0
section
variable {n d top sh : Nat} {K : Nat -> Nat} {T : Nat -> List Rec}
theorem MvF.mem (h : MvF n d top sh K T) {q : Nat} (q1 : 1 <= q) (hk : K q = 2) {r : Rec} (hr : r ∈ T q) : (q = 1 /\ ((sh = 0 /\ r.id = 2) \/ r.id = top)) \/ (q = top /\ sh = 1 /\ r.id = 2) \/ ∃ i, i <= d /\ q = dI n i /\ ((∃ k, k < n /\ r.id = dI n i + 1 + k) \/ (i < d /\ r.id = dI n (i + 1))) := by
  by_cases e1 : q = 1
  · subst e1
    rw [h.t1] at hr
    refine Or.inl ⟨rfl, ?_⟩
    rcases List.mem_append.1 hr with hr | hr
    · by_cases e : sh = 0
      · rw [if_pos e] at hr
        exact Or.inl ⟨e, by rw [List.mem_singleton.1 hr]⟩
      · rw [if_neg e] at hr; simp at hr
    · exact Or.inr (by rw [List.mem_singleton.1 hr])
  · refine Or.inr ?_
    by_cases e2 : q = top
    · subst e2
      rw [h.tto] at hr
      by_cases e : sh = 0
      · rw [if_pos e] at hr; simp at hr
      · rw [if_neg e] at hr
        exact Or.inl ⟨rfl, by have := h.sh_; omega, by rw [List.mem_singleton.1 hr]⟩
    · refine Or.inr ?_
      have hle : q <= top := by
        rcases Nat.lt_or_ge top q with h' | h'
        · rw [h.free q h'] at hk; cases hk
        · exact h'
      have ht := h.top_
      obtain ⟨i, k, hi, hkn, rfl⟩ := dI_split (n := n) (d := d) (x := q) (by omega) (by omega)
      have hk0 : k = 0 := by
        rcases Nat.eq_zero_or_pos k with e | e
        · exact e
        · have := h.file i (k - 1) hi (by omega)
          rw [show dI n i + 1 + (k - 1) = dI n i + k by omega, hk] at this
          cases this
      subst hk0
      rw [Nat.add_zero, h.full i hi] at hr
      refine ⟨i, hi, rfl, ?_⟩
      rcases List.mem_append.1 hr with hr | hr
      · obtain ⟨k, hk', rfl⟩ := fsR_mem hr
        exact Or.inl ⟨k, hk', rfl⟩
      · by_cases e : i < d
        · rw [if_pos e] at hr
          exact Or.inr ⟨e, by rw [List.mem_singleton.1 hr]⟩
        · rw [if_neg e] at hr; simp at hr
theorem MvF.rank (h : MvF n d top sh K T) (tn : Nat) (hto : top <= tn) (hfew : d + sh + 1 + (if n = 0 then 0 else 1) <= 6) : RankT K T tn (rkM n d top sh) := by
  have ht := h.top_
  have hs := h.sh_
  have h2 := dI_two n d
  have hone : rkM n d top sh 1 = 0 := by unfold rkM; rw [if_pos rfl]
  have htop : rkM n d top sh top = 1 := by unfold rkM; rw [if_neg (by omega), if_pos rfl]
  have htwo : rkM n d top sh 2 = sh + 1 := by
    have := rkM_dir (n := n) (d := d) (top := top) (sh := sh) (i := 0) (Nat.zero_le _) ht
    exact this
  have hlt : ∀ i, i <= d -> 2 <= dI n i /\ dI n i + n < top := fun i hi => by
    have := dI_two n i
    rcases Nat.lt_or_ge i d with h' | h'
    · have := dI_lt (n := n) h'; omega
    · obtain rfl : i = d := by omega
      omega
  have hcase : ∀ x, 1 <= x -> K x ≠ 0 -> x = 1 \/ x = top \/ ∃ i k, i <= d /\ k <= n /\ x = dI n i + k := fun x x1 x2 => by
    rcases Nat.lt_or_ge top x with h' | h'
    · exact absurd (h.free x h') x2
    · by_cases e1 : x = 1
      · exact Or.inl e1
      · by_cases e2 : x = top
        · exact Or.inr (Or.inl e2)
        · exact Or.inr (Or.inr (dI_split (by omega) (by omega)))
  refine ⟨hone, fun q q1 q2 hk r hr => ?_, fun q q1 q2 hk => ?_, fun q q1 q2 hk => ?_, fun q q' q1 q2 hk q1' q2' hk' r hr r' hr' e => ?_, fun x x1 x2 hk hx => ?_⟩
  · rcases h.mem q1 hk hr with ⟨rfl, ⟨e0, e⟩ | e⟩ | ⟨rfl, e0, e⟩ | ⟨i, hi, rfl, ⟨k, hkn, e⟩ | ⟨hid, e⟩⟩
    · rw [e, htwo, hone]; omega
    · rw [e, htop, hone]
    · rw [e, htwo, htop]; omega
    · rw [e, rkM_file hi hkn ht, rkM_dir hi ht]; omega
    · rw [e, rkM_dir (by omega) ht, rkM_dir hi ht]; omega
  · rcases hcase q q1 hk with rfl | rfl | ⟨i, k, hi, hkn, rfl⟩
    · rw [hone]; omega
    · rw [htop]; omega
    · rcases Nat.eq_zero_or_pos k with e | e
      · subst e
        rw [Nat.add_zero, rkM_dir hi ht]
        split at hfew <;> omega
      · rw [show dI n i + k = dI n i + 1 + (k - 1) by omega, rkM_file hi (by omega) ht]
        rw [if_neg (by omega)] at hfew
        omega
  · rcases hcase q q1 (by rw [hk]; decide) with rfl | rfl | ⟨i, k, hi, hkn, rfl⟩
    · rw [h.t1]
      split
      · show ([2, top] : List Nat).Nodup
        simp
        omega
      · show ([top] : List Nat).Nodup
        simp
    · rw [h.tto]
      split <;> simp
    · have hk0 : k = 0 := by
        rcases Nat.eq_zero_or_pos k with e | e
        · exact e
        · have := h.file i (k - 1) hi (by omega)
          rw [show dI n i + 1 + (k - 1) = dI n i + k by omega, hk] at this
          cases this
      subst hk0
      rw [Nat.add_zero, h.full i hi, List.map_append, List.nodup_append]
      refine ⟨?_, by split <;> simp, fun a ha b hb => ?_⟩
      · have e : (fsR (dI n i) n).map Rec.id = (List.range n).map fun k => dI n i + 1 + k := by simp [fsR]
        rw [e]
        exact List.pairwise_map.2 (List.Pairwise.imp (fun {a b} hab e => hab (by omega)) (List.nodup_range (n := n)))
      · obtain ⟨r, hr, rfl⟩ := List.mem_map.1 ha
        obtain ⟨k, hk', rfl⟩ := fsR_mem hr
        split at hb
        · simp only [List.map_cons, List.map_nil, List.mem_singleton] at hb
          subst hb
          show dI n i + 1 + k ≠ dI n i + n + 1
          omega
        · simp at hb
  · have cc : ∀ i j k k', k < n -> k' < n -> dI n i + 1 + k = dI n j + 1 + k' -> i = j := fun i j k k' a b c => by
      rcases Nat.lt_trichotomy i j with h' | h' | h'
      · have := dI_lt (n := n) h'; omega
      · exact h'
      · have := dI_lt (n := n) h'; omega
    have cd : ∀ i j k, k < n -> dI n i + 1 + k ≠ dI n (j + 1) := fun i j k a c => by
      rcases Nat.lt_trichotomy i (j + 1) with h' | h' | h'
      · have := dI_lt (n := n) h'; omega
      · rw [h'] at c; omega
      · have := dI_lt (n := n) h'; omega
    have d2 : ∀ i, 2 < dI n (i + 1) := fun i => by have := dI_lt (n := n) (show 0 < i + 1 by omega); have e0 : dI n 0 = 2 := rfl; omega
    have dt : ∀ i, i < d -> dI n (i + 1) < top := fun i hi => by have := hlt (i + 1) (by omega); omega
    have ct : ∀ i k, i <= d -> k < n -> dI n i + 1 + k < top /\ 2 < dI n i + 1 + k := fun i k hi hk => by have := hlt i hi; omega
    rcases h.mem q1 hk hr with ⟨rfl, ⟨e0, e1⟩ | e1⟩ | ⟨rfl, e0, e1⟩ | ⟨i, hi, rfl, ⟨k, hkn, e1⟩ | ⟨hid, e1⟩⟩ <;> rcases h.mem q1' hk' hr' with ⟨rfl, ⟨f0, f1⟩ | f1⟩ | ⟨rfl, f0, f1⟩ | ⟨j, hj, rfl, ⟨k', hkn', f1⟩ | ⟨hjd, f1⟩⟩ <;> rw [e1, f1] at e
    all_goals first
      | rfl
      | (exfalso; omega)
      | (exfalso; have := d2 i; have := dt i hid; omega)
      | (exfalso; have := d2 j; have := dt j hjd; omega)
      | (exfalso; have := ct i k hi hkn; omega)
      | (exfalso; have := ct j k' hj hkn'; omega)
      | exact absurd e (cd i j k hkn)
      | exact absurd e.symm (cd j i k' hkn')
      | rw [cc i j k k' hkn hkn' e]
      | (have e' := dI_inj (n := n) e; rw [show i = j by omega])
  · rcases hcase x x1 hk with rfl | rfl | ⟨i, k, hi, hkn, rfl⟩
    · exact absurd rfl hx
    · exact ⟨1, Nat.le_refl _, by omega, h.root, ⟨[116, 111], _⟩, by rw [h.t1]; simp, rfl⟩
    · rcases Nat.eq_zero_or_pos k with e | e
      · subst e
        rcases Nat.eq_zero_or_pos i with e | e
        · subst e
          rcases hs with e | e
          · exact ⟨1, Nat.le_refl _, by omega, h.root, ⟨[100], 2⟩, by rw [h.t1, if_pos e]; simp, rfl⟩
          · exact ⟨top, by omega, hto, h.kto, ⟨[101], 2⟩, by rw [h.tto, if_neg (by omega)]; simp, rfl⟩
        · obtain ⟨j, rfl⟩ : ∃ j, i = j + 1 := ⟨i - 1, by omega⟩
          have hj := hlt j (by omega)
          have hj1 := dI_lt (n := n) (show j < j + 1 by omega)
          exact ⟨dI n j, by omega, by omega, h.dir j (by omega), ⟨[100], dI n (j + 1)⟩, by rw [h.full j (by omega), if_pos (by omega)]; simp, rfl⟩
      · have hj := hlt i hi
        refine ⟨dI n i, by omega, by omega, h.dir i hi, ⟨nmP 102 (k - 1), dI n i + 1 + (k - 1)⟩, ?_, by show dI n i + 1 + (k - 1) = dI n i + k; omega⟩
        rw [h.full i hi]
        exact List.mem_append.2 (Or.inl (List.mem_map.2 ⟨k - 1, List.mem_range.2 (by omega), rfl⟩))
end
section
variable {n d top : Nat} {K : Nat -> Nat} {T : Nat -> List Rec}
theorem MvI.to (h : MvI n d n K T) (ht : top = dI n d + n + 1) : MvF n d top 0 (upd K top 2) (upd T 1 (T 1 ++ [⟨[116, 111], top⟩])) := by
  have h2 := dI_two n d
  have hlt : ∀ i, i <= d -> 2 <= dI n i /\ dI n i + n < top := fun i hi => by
    have := dI_two n i
    rcases Nat.lt_or_ge i d with h' | h'
    · have := dI_lt (n := n) h'; omega
    · obtain rfl : i = d := by omega
      omega
  refine ⟨ht, Or.inl rfl, by rw [upd_other _ _ (by omega)]; exact h.root, upd_same _ _ _, fun i hi => ?_, fun i k hi hk => ?_, by rw [upd_same, h.t1]; rfl, ?_, fun i hi => ?_, fun x hx => ?_⟩
  · have := hlt i hi
    rw [upd_other _ _ (by omega)]
    exact h.dir i hi
  · have := hlt i hi
    rw [upd_other _ _ (by omega)]
    exact (h.file i k hi hk (fun _ => hk)).1
  · rw [upd_other _ _ (by omega), (h.free top (by omega)).2]
    rfl
  · have := hlt i hi
    rw [upd_other _ _ (by omega)]
    by_cases e : i < d
    · rw [if_pos e]; exact h.full i e
    · obtain rfl : i = d := by omega
      rw [if_neg e, List.append_nil]; exact h.last
  · rw [upd_other _ _ (by omega)]
    exact (h.free x (by omega)).1
theorem MvF.enter (h : MvF n d top 0 K T) : MvF n d top 1 K (upd (upd T 1 (dropR (T 1) 0)) top (T top ++ [⟨[101], 2⟩])) := by
  have ht := h.top_
  have h2 := dI_two n d
  have hlt : ∀ i, i <= d -> 2 <= dI n i /\ dI n i + n < top := fun i hi => by
    have := dI_two n i
    rcases Nat.lt_or_ge i d with h' | h'
    · have := dI_lt (n := n) h'; omega
    · obtain rfl : i = d := by omega
      omega
  refine ⟨ht, Or.inr rfl, h.root, h.kto, h.dir, h.file, ?_, ?_, fun i hi => ?_, h.free⟩
  · rw [upd_other _ _ (by omega), upd_same, h.t1]
    rfl
  · rw [upd_same, h.tto]
    rfl
  · have := hlt i hi
    rw [upd_other _ _ (by omega), upd_other _ _ (by omega)]
    exact h.full i hi
theorem MvF.down {sh : Nat} (h : MvF n d top sh K T) : ∀ i j, i + j <= d -> walkT K T (dI n i) (List.replicate j [100]) = .ok (dI n (i + j))
  | i, 0, _ => rfl
  | i, j + 1, hij => by
    have hk := h.dir i (by omega)
    have hl : lookT (T (dI n i)) [100] = some ⟨[100], dI n (i + 1)⟩ := by
      rw [h.full i (by omega), if_pos (by omega)]
      unfold lookT
      rw [List.find?_append, List.find?_eq_none.2 (fun r hr => by simpa using fsR_nod r hr)]
      rfl
    show walkT K T (dI n i) ([100] :: List.replicate j [100]) = _
    unfold walkT
    rw [if_pos hk, hl]
    have := h.down (i + 1) j (by omega)
    rw [show i + (j + 1) = i + 1 + j by omega]
    exact this
theorem MvF.walk0 (h : MvF n d top 0 K T) {j : Nat} (hj : j <= d) : walkT K T 1 ([100] :: List.replicate j [100]) = .ok (dI n j) := by
  unfold walkT
  rw [if_pos h.root, h.t1]
  have := h.down 0 j (by omega)
  rw [Nat.zero_add] at this
  exact this
theorem MvF.walk1 (h : MvF n d top 1 K T) {j : Nat} (hj : j <= d) : walkT K T 1 ([116, 111] :: [101] :: List.replicate j [100]) = .ok (dI n j) := by
  have h1 : lookT (T 1) [116, 111] = some ⟨[116, 111], top⟩ := by rw [h.t1]; rfl
  have h2 : lookT (T top) [101] = some ⟨[101], 2⟩ := by rw [h.tto]; rfl
  have := h.down 0 j (by omega)
  rw [Nat.zero_add] at this
  unfold walkT
  rw [if_pos h.root, h1]
  show walkT K T top ([101] :: List.replicate j [100]) = _
  unfold walkT
  rw [if_pos h.kto, h2]
  exact this
theorem MvF.look {sh : Nat} (h : MvF n d top sh K T) {i k : Nat} (hi : i <= d) (hk : k < n) (hn : n <= 100) : lookT (T (dI n i)) (nmP 102 k) = some ⟨nmP 102 k, dI n i + 1 + k⟩ := by
  have hs : ∃ q, lookT (T (dI n i)) (nmP 102 k) = some q := by
    obtain ⟨q, hq, -⟩ := look_has (L := T (dI n i)) (s := nmP 102 k) ⟨⟨nmP 102 k, dI n i + 1 + k⟩, by rw [h.full i hi]; exact List.mem_append.2 (Or.inl (List.mem_map.2 ⟨k, List.mem_range.2 hk, rfl⟩)), rfl⟩
    exact ⟨q, hq⟩
  obtain ⟨q, hq⟩ := hs
  obtain ⟨e, j, hj⟩ := lookT_some hq
  have hm := List.mem_of_getElem? hj
  rw [h.full i hi] at hm
  rcases List.mem_append.1 hm with hm | hm
  · obtain ⟨k', hk', rfl⟩ := fsR_mem hm
    have := nm_inj (c := 102) (i := k') (j := k) (by omega) (by omega) e
    subst this
    exact hq
  · split at hm
    · rw [List.mem_singleton.1 hm] at e
      exact absurd (List.cons.inj e).1 (by decide)
    · simp at hm
end
section
variable {n d top sh tn : Nat} {K : Nat -> Nat} {D : Nat -> List Int} {T : Nat -> List Rec}
theorem MvF.low (h : MvF n d top sh K T) {y : Nat} (y1 : 1 <= y) (y2 : K y ≠ 0) : rkM n d top sh y <= sh + 1 + d + (if n = 0 then 0 else 1) := by
  have ht := h.top_
  rcases Nat.lt_or_ge top y with h' | h'
  · exact absurd (h.free y h') y2
  · by_cases e1 : y = 1
    · subst e1
      unfold rkM
      rw [if_pos rfl]
      omega
    · by_cases e2 : y = top
      · subst e2
        unfold rkM
        rw [if_neg e1, if_pos rfl]
        omega
      · obtain ⟨i, k, hi, hkn, rfl⟩ := dI_split (n := n) (d := d) (x := y) (by omega) (by omega)
        rcases Nat.eq_zero_or_pos k with e | e
        · subst e
          rw [Nat.add_zero, rkM_dir hi ht]
          omega
        · rw [show dI n i + k = dI n i + 1 + (k - 1) by omega, rkM_file hi (by omega) ht, if_neg (by omega)]
          omega
theorem MvF.levels (h : MvF n d top sh K T) (ht : TreeOk tn K D T) (hto : top <= tn) (hfew : d + sh + 1 + (if n = 0 then 0 else 1) <= 6) : ∃ lv, LvOk K T tn 2 lv /\ lv.length = d + 1 + (if n = 0 then 0 else 1) := by
  have m := h.rank tn hto hfew
  have htop := h.top_
  have h2 : dI n 0 = 2 := rfl
  have hd2 := dI_two n d
  have k2 : K 2 = 2 := h.dir 0 (Nat.zero_le _)
  have hr2 : rkM n d top sh 2 = sh + 1 := rkM_dir (n := n) (d := d) (top := top) (sh := sh) (i := 0) (Nat.zero_le _) htop
  have hle : ∀ i, i <= d -> 2 <= dI n i /\ dI n i + n < top := fun i hi => by
    have := dI_two n i
    rcases Nat.lt_or_ge i d with h' | h'
    · have := dI_lt (n := n) h'; omega
    · obtain rfl : i = d := by omega
      omega
  have hdir : ∀ j, j <= d -> dI n j ∈ lvT K T 2 j := by
    intro j
    induction j with
    | zero => intro _; simp [lvT, h2]
    | succ j ih =>
      intro hj
      have hl := hle j (by omega)
      exact List.mem_flatMap.2 ⟨dI n j, ih (by omega), (kids_mem ht (by omega) (by omega)).2 ⟨h.dir j (by omega), ⟨[100], dI n (j + 1)⟩, by rw [h.full j (by omega), if_pos (by omega)]; simp, rfl⟩⟩
  obtain ⟨J, hJ⟩ : ∃ J, J = d + (if n = 0 then 0 else 1) := ⟨_, rfl⟩
  have hnil : lvT K T 2 (J + 1) = [] := List.eq_nil_iff_forall_not_mem.2 fun y hy => by
    obtain ⟨y1, y2, y3, y4⟩ := lv_in ht m (by omega) (by omega) (by rw [k2]; decide) (J + 1) y hy
    have := h.low y1 y3
    omega
  have hne : ∀ j, j <= J -> lvT K T 2 j ≠ [] := fun j hj e => by
    rcases Nat.lt_or_ge d j with h' | h'
    · have hn : n ≠ 0 := fun e' => by rw [if_pos e'] at hJ; omega
      rw [if_neg hn] at hJ
      have hjd : j = d + 1 := by omega
      subst hjd
      have hl := hle d (Nat.le_refl _)
      have : dI n d + 1 + 0 ∈ lvT K T 2 (d + 1) := List.mem_flatMap.2 ⟨dI n d, hdir d (Nat.le_refl _), (kids_mem ht (by omega) (by omega)).2 ⟨h.dir d (Nat.le_refl _), ⟨nmP 102 0, dI n d + 1 + 0⟩, by rw [h.full d (Nat.le_refl _)]; exact List.mem_append.2 (Or.inl (List.mem_map.2 ⟨0, List.mem_range.2 (by omega), rfl⟩)), rfl⟩⟩
      rw [e] at this
      simp at this
    · have := hdir j h'
      rw [e] at this
      simp at this
  refine ⟨_, lvok_rank ht m (by omega) (by omega) (by rw [k2]; decide) hnil hne, ?_⟩
  simp
  omega
end
theorem names_len (T : Nat -> List Rec) (x : Nat) : (namesT T x).length = (T x).length := by
  have h1 : (namesT T x).Perm ((T x).map Rec.s) := by unfold namesT; exact List.mergeSort_perm _ _
  rw [h1.length_eq, List.length_map]
theorem split_flat {l : List (List UInt8)} (hn : l ≠ []) (h6 : l.length <= 6) (hok : ∀ s ∈ l, okB s = true) : splitB (flatB l) = some l := by
  have hm : mayP l = true := by unfold mayP; simp [h6]; exact hok
  have := split_join hm
  unfold joinB at this
  rw [if_neg hn] at this
  exact this
theorem flat_app (l m : List (List UInt8)) : flatB (l ++ m) = flatB l ++ flatB m := by simp [flatB]
theorem flat_one (s : List UInt8) : flatB [s] = 47 :: s := by simp [flatB]
def pathD (i : Nat) : List UInt8 := flatB (List.replicate i [100])
theorem pathD_succ (i : Nat) : pathD (i + 1) = pathD i ++ [47, 100] := by
  unfold pathD
  rw [List.replicate_succ', flat_app, flat_one]
theorem pathD_len : ∀ i, (pathD i).length = 2 * i
  | 0 => rfl
  | i + 1 => by rw [pathD_succ, List.length_append, pathD_len i]; simp; omega
theorem d_ok : okB [100] = true := by decide
theorem pathD_split {i : Nat} (h1 : 1 <= i) (h6 : i <= 6) : splitB (pathD i) = some (List.replicate i [100]) :=
  split_flat (fun e => by have := congrArg List.length e; simp at this; omega) (by simpa using h6) (fun s hs => by rw [(List.mem_replicate.1 hs).2]; exact d_ok)
theorem pathD_file {i k : Nat} (h5 : i <= 5) (hk : k < 128) : splitB (pathD i ++ 47 :: nmP 102 k) = some (List.replicate i [100] ++ [nmP 102 k]) := by
  have := split_flat (l := List.replicate i [100] ++ [nmP 102 k]) (by simp) (by simp; omega) (fun s hs => by
    rcases List.mem_append.1 hs with h | h
    · rw [(List.mem_replicate.1 h).2]; exact d_ok
    · rw [List.mem_singleton.1 h]; exact (ok_fin ⟨k, hk⟩).2.1)
  rw [flat_app, flat_one] at this
  exact this
theorem pathT_split {i : Nat} (h4 : i <= 4) : splitB ([47, 116, 111, 47, 101] ++ pathD i) = some ([116, 111] :: [101] :: List.replicate i [100]) := by
  have := split_flat (l := [116, 111] :: [101] :: List.replicate i [100]) (by simp) (by simp; omega) (fun s hs => by
    rcases List.mem_cons.1 hs with h | h
    · rw [h]; decide
    · rcases List.mem_cons.1 h with h | h
      · rw [h]; decide
      · rw [(List.mem_replicate.1 h).2]; exact d_ok)
  rw [<- this]
  rfl
theorem pathT_file {i k : Nat} (h3 : i <= 3) (hk : k < 128) : splitB ([47, 116, 111, 47, 101] ++ pathD i ++ 47 :: nmP 102 k) = some ([116, 111] :: [101] :: List.replicate i [100] ++ [nmP 102 k]) := by
  have := split_flat (l := [116, 111] :: [101] :: List.replicate i [100] ++ [nmP 102 k]) (by simp) (by simp; omega) (fun s hs => by
    rcases List.mem_append.1 hs with hs | hs
    · rcases List.mem_cons.1 hs with h | h
      · rw [h]; decide
      · rcases List.mem_cons.1 h with h | h
        · rw [h]; decide
        · rw [(List.mem_replicate.1 h).2]; exact d_ok
    · rw [List.mem_singleton.1 hs]; exact (ok_fin ⟨k, hk⟩).2.1)
  rw [flat_app, flat_one] at this
  rw [<- this]
  rfl
end Go.Proofs.YtleafmdjhmnjmaaGreatDoor
