/- FsMoves: its tree while it is made: directories one in the other, files in each. -/
import Derived.Test.YtleafmdjhmnjmaaGreatDoorGMa
import Derived.Test.YtleafmdjhmnjmaaGreatDoorGMb
import Derived.Test.YtleafmdjhmnjmaaGreatDoorGMc
namespace Go.Proofs.YtleafmdjhmnjmaaGreatDoor
open Go.RowKit Go.Extern.Stop Go.Stop Go.Extern Go.Maps Go.Sort Go.Shelf
set_option maxRecDepth 100000
def dI (n : Nat) : Nat -> Nat
  | 0 => 2
  | i + 1 => dI n i + n + 1
theorem dI_lt {n i j : Nat} (h : i < j) : dI n i + n < dI n j := by
  obtain ⟨k, rfl⟩ : ∃ k, j = i + 1 + k := ⟨j - (i + 1), by omega⟩
  induction k with
  | zero => show dI n i + n < dI n i + n + 1; omega
  | succ k ih =>
    have := ih (by omega)
    show dI n i + n < dI n (i + 1 + k) + n + 1
    omega
theorem dI_two (n i : Nat) : 2 <= dI n i := by
  rcases Nat.eq_zero_or_pos i with rfl | h
  · exact Nat.le_refl _
  · have := dI_lt (n := n) h
    have : dI n 0 = 2 := rfl
    omega
theorem dI_inj {n i j : Nat} (h : dI n i = dI n j) : i = j := by
  rcases Nat.lt_trichotomy i j with h' | h' | h'
  · have := dI_lt (n := n) h'; omega
  · exact h'
  · have := dI_lt (n := n) h'; omega
def fsR (b m : Nat) : List Rec := (List.range m).map fun k => ⟨nmP 102 k, b + 1 + k⟩
theorem fsR_succ (b m : Nat) : fsR b (m + 1) = fsR b m ++ [⟨nmP 102 m, b + 1 + m⟩] := by simp [fsR, List.range_succ]
theorem fsR_len (b m : Nat) : (fsR b m).length = m := by simp [fsR]
theorem fsR_mem {b m : Nat} {r : Rec} (h : r ∈ fsR b m) : ∃ k, k < m /\ r = ⟨nmP 102 k, b + 1 + k⟩ := by
  obtain ⟨k, hk, rfl⟩ := List.mem_map.1 h
  exact ⟨k, List.mem_range.1 hk, rfl⟩
theorem fsR_no {b m k : Nat} (hm : m <= k) (hk : k < 128) : ∀ r ∈ fsR b m, r.s ≠ nmP 102 k := by
  intro r hr e
  obtain ⟨j, hj, rfl⟩ := fsR_mem hr
  have := nm_inj (c := 102) (i := j) (j := k) (by omega) hk e
  omega
theorem fsR_nod {b m : Nat} : ∀ r ∈ fsR b m, r.s ≠ [100] := by
  intro r hr e
  obtain ⟨j, hj, rfl⟩ := fsR_mem hr
  exact absurd (List.cons.inj e).1 (by decide)
structure MvI (n d m : Nat) (K : Nat -> Nat) (T : Nat -> List Rec) : Prop where
  root : K 1 = 2
  t1 : T 1 = [⟨[100], 2⟩]
  dir : ∀ i, i <= d -> K (dI n i) = 2
  full : ∀ i, i < d -> T (dI n i) = fsR (dI n i) n ++ [⟨[100], dI n (i + 1)⟩]
  last : T (dI n d) = fsR (dI n d) m
  file : ∀ i k, i <= d -> k < n -> (i = d -> k < m) -> K (dI n i + 1 + k) = 1 /\ T (dI n i + 1 + k) = []
  free : ∀ x, dI n d + m < x -> K x = 0 /\ T x = []
section
variable {n d m : Nat} {K : Nat -> Nat} {T : Nat -> List Rec}
theorem MvI.put (h : MvI n d m K T) (hm : m < n) : MvI n d (m + 1) (upd K (dI n d + 1 + m) 1) (upd T (dI n d) (T (dI n d) ++ [⟨nmP 102 m, dI n d + 1 + m⟩])) := by
  have h2 := dI_two n d
  have hne : ∀ i, i <= d -> dI n i ≠ dI n d + 1 + m := fun i hi => by
    rcases Nat.lt_or_ge i d with h' | h'
    · have := dI_lt (n := n) h'; omega
    · obtain rfl : i = d := by omega
      omega
  refine ⟨by rw [upd_other _ _ (by omega)]; exact h.root, by rw [upd_other _ _ (by omega)]; exact h.t1, fun i hi => by rw [upd_other _ _ (hne i hi)]; exact h.dir i hi, fun i hi => ?_, by rw [upd_same, h.last, fsR_succ], fun i k hi hk hd => ?_, fun x hx => ?_⟩
  · have := dI_lt (n := n) hi
    rw [upd_other _ _ (by omega)]
    exact h.full i hi
  · by_cases e : dI n i + 1 + k = dI n d + 1 + m
    · rw [e, upd_same, upd_other _ _ (by omega)]
      exact ⟨rfl, (h.free _ (by omega)).2⟩
    · have hx : dI n i + 1 + k ≠ dI n d := by
        rcases Nat.lt_or_ge i d with h' | h'
        · have := dI_lt (n := n) h'; omega
        · obtain rfl : i = d := by omega
          omega
      rw [upd_other _ _ e, upd_other _ _ hx]
      exact h.file i k hi hk (fun e' => by subst e'; have := hd rfl; omega)
  · rw [upd_other _ _ (by omega), upd_other _ _ (by omega)]
    exact h.free x (by omega)
theorem MvI.mkdir (h : MvI n d n K T) : MvI n (d + 1) 0 (upd K (dI n (d + 1)) 2) (upd T (dI n d) (T (dI n d) ++ [⟨[100], dI n (d + 1)⟩])) := by
  have h2 := dI_two n d
  have hs : dI n (d + 1) = dI n d + n + 1 := rfl
  have hlt : ∀ i, i <= d -> dI n i + n < dI n (d + 1) := fun i hi => dI_lt (by omega)
  refine ⟨by rw [upd_other _ _ (by omega)]; exact h.root, by rw [upd_other _ _ (by omega)]; exact h.t1, fun i hi => ?_, fun i hi => ?_, ?_, fun i k hi hk hd => ?_, fun x hx => ?_⟩
  · by_cases e : i = d + 1
    · rw [e, upd_same]
    · have := hlt i (by omega)
      rw [upd_other _ _ (by omega)]
      exact h.dir i (by omega)
  · by_cases e : i = d
    · subst e
      rw [upd_same, h.last]
    · have := dI_lt (n := n) (show i < d by omega)
      rw [upd_other _ _ (by omega)]
      exact h.full i (by omega)
  · rw [upd_other _ _ (by omega), (h.free _ (by omega)).2]
    rfl
  · have hid : i <= d := by
      rcases Nat.lt_or_ge d i with h' | h'
      · have e : i = d + 1 := by omega
        have := hd e
        omega
      · exact h'
    have := hlt i hid
    have hx : dI n i + 1 + k ≠ dI n d := by
      rcases Nat.lt_or_ge i d with h' | h'
      · have := dI_lt (n := n) h'; omega
      · obtain rfl : i = d := by omega
        omega
    rw [upd_other _ _ (by omega), upd_other _ _ hx]
    exact h.file i k hid hk (fun _ => hk)
  · rw [upd_other _ _ (by omega), upd_other _ _ (by omega)]
    exact h.free x (by omega)
theorem MvI.down (h : MvI n d m K T) : ∀ i j, i + j <= d -> walkT K T (dI n i) (List.replicate j [100]) = .ok (dI n (i + j))
  | i, 0, _ => rfl
  | i, j + 1, hij => by
    have hk := h.dir i (by omega)
    have hl : lookT (T (dI n i)) [100] = some ⟨[100], dI n (i + 1)⟩ := by
      rw [h.full i (by omega)]
      unfold lookT
      rw [List.find?_append, List.find?_eq_none.2 (fun r hr => by simpa using fsR_nod r hr)]
      rfl
    show walkT K T (dI n i) ([100] :: List.replicate j [100]) = _
    unfold walkT
    rw [if_pos hk, hl]
    have := h.down (i + 1) j (by omega)
    rw [show i + (j + 1) = i + 1 + j by omega]
    exact this
theorem MvI.walk (h : MvI n d m K T) {j : Nat} (hj : j <= d) : walkT K T 1 (List.replicate (j + 1) [100]) = .ok (dI n j) := by
  show walkT K T 1 ([100] :: List.replicate j [100]) = _
  unfold walkT
  rw [if_pos h.root, h.t1]
  have := h.down 0 j (by omega)
  rw [Nat.zero_add] at this
  exact this
theorem MvI.dirT (h : MvI n d m K T) {j : Nat} (hj : j <= d) : dirT K T (List.replicate (j + 1) [100]) = .ok (dI n j) := by
  unfold Proofs.YtleafmdjhmnjmaaGreatDoor.dirT
  rw [h.walk hj]
  exact if_pos (h.dir j hj)
end
theorem dI_split {n d x : Nat} (h2 : 2 <= x) (hx : x <= dI n d + n) : ∃ i k, i <= d /\ k <= n /\ x = dI n i + k := by
  induction d with
  | zero =>
    have h0 : dI n 0 = 2 := rfl
    exact ⟨0, x - 2, Nat.le_refl _, by omega, by omega⟩
  | succ d ih =>
    have hs : dI n (d + 1) = dI n d + n + 1 := rfl
    rcases Nat.lt_or_ge x (dI n (d + 1)) with h | h
    · obtain ⟨i, k, h1, h3, h4⟩ := ih (by omega)
      exact ⟨i, k, by omega, h3, h4⟩
    · exact ⟨d + 1, x - dI n (d + 1), Nat.le_refl _, by omega, by omega⟩
def cntD (n x : Nat) : Nat -> Nat
  | 0 => 0
  | j + 1 => cntD n x j + if dI n j < x then 1 else 0
theorem cntD_eq {n x c : Nat} : ∀ k, c <= k -> (∀ j, j < k -> (dI n j < x <-> j < c)) -> cntD n x k = c
  | 0, hc, _ => by unfold cntD; omega
  | k + 1, hc, h => by
    unfold cntD
    have hk := h k (by omega)
    rcases Nat.lt_or_ge k c with h' | h'
    · obtain rfl : c = k + 1 := by omega
      rw [if_pos (hk.2 h')]
      have : ∀ j, j < k -> (dI n j < x <-> j < k) := fun j hj => ⟨fun _ => hj, fun _ => (h j (by omega)).2 (by omega)⟩
      rw [cntD_eq k (Nat.le_refl _) this]
    · rw [if_neg (fun e => by have := hk.1 e; omega), cntD_eq k h' (fun j hj => h j (by omega)), Nat.add_zero]
def rkM (n d top sh x : Nat) : Nat := if x = 1 then 0 else if x = top then 1 else sh + 1 + cntD n x (d + 1)
theorem rkM_dir {n d top sh i : Nat} (hi : i <= d) (ht : top = dI n d + n + 1) : rkM n d top sh (dI n i) = sh + 1 + i := by
  have h2 := dI_two n i
  have hlt : dI n i ≠ top := by
    rcases Nat.lt_or_ge i d with h | h
    · have := dI_lt (n := n) h; omega
    · obtain rfl : i = d := by omega
      omega
  unfold rkM
  rw [if_neg (by omega), if_neg hlt, cntD_eq (c := i) (d + 1) (by omega) (fun j hj => ?_)]
  constructor
  · intro h
    rcases Nat.lt_or_ge j i with h' | h'
    · exact h'
    · rcases Nat.lt_or_ge i j with h'' | h''
      · have := dI_lt (n := n) h''; omega
      · obtain rfl : i = j := by omega
        omega
  · intro h
    have := dI_lt (n := n) h
    omega
theorem rkM_file {n d top sh i k : Nat} (hi : i <= d) (hk : k < n) (ht : top = dI n d + n + 1) : rkM n d top sh (dI n i + 1 + k) = sh + 2 + i := by
  have h2 := dI_two n i
  have hlt : dI n i + 1 + k ≠ top := by
    rcases Nat.lt_or_ge i d with h | h
    · have := dI_lt (n := n) h; omega
    · obtain rfl : i = d := by omega
      omega
  unfold rkM
  rw [if_neg (by omega), if_neg hlt, cntD_eq (c := i + 1) (d + 1) (by omega) (fun j hj => ?_)]
  · omega
  constructor
  · intro h
    rcases Nat.lt_or_ge i j with h' | h'
    · have := dI_lt (n := n) h'; omega
    · omega
  · intro h
    rcases Nat.lt_or_ge j i with h' | h'
    · have := dI_lt (n := n) h'; omega
    · obtain rfl : j = i := by omega
      omega
structure MvF (n d top sh : Nat) (K : Nat -> Nat) (T : Nat -> List Rec) : Prop where
  top_ : top = dI n d + n + 1
  sh_ : sh = 0 \/ sh = 1
  root : K 1 = 2
  kto : K top = 2
  dir : ∀ i, i <= d -> K (dI n i) = 2
  file : ∀ i k, i <= d -> k < n -> K (dI n i + 1 + k) = 1
  t1 : T 1 = (if sh = 0 then [⟨[100], 2⟩] else []) ++ [⟨[116, 111], top⟩]
  tto : T top = if sh = 0 then [] else [⟨[101], 2⟩]
  full : ∀ i, i <= d -> T (dI n i) = fsR (dI n i) n ++ (if i < d then [⟨[100], dI n (i + 1)⟩] else [])
  free : ∀ x, top < x -> K x = 0
section
variable {n d top sh : Nat} {K : Nat -> Nat} {T : Nat -> List Rec}
theorem MvF.mem (h : MvF n d top sh K T) {q : Nat} (q1 : 1 <= q) (hk : K q = 2) {r : Rec} (hr : r ∈ T q) : (q = 1 /\ ((sh = 0 /\ r.id = 2) \/ r.id = top)) \/ (q = top /\ sh = 1 /\ r.id = 2) \/ ∃ i, i <= d /\ q = dI n i /\ ((∃ k, k < n /\ r.id = dI n i + 1 + k) \/ (i < d /\ r.id = dI n (i + 1))) := by
  by_cases e1 : q = 1
  · subst e1
    rw [h.t1] at hr
    refine Or.inl ⟨rfl, ?_⟩
    rcases List.mem_append.1 hr with hr | hr
    · by_cases e : sh = 0
      · rw [if_pos e] at hr
        exact Or.inl ⟨e, by rw [List.mem_singleton.1 hr]⟩
      · rw [if_neg e] at hr; simp at hr
    · exact Or.inr (by rw [List.mem_singleton.1 hr])
  · refine Or.inr ?_
    by_cases e2 : q = top
    · subst e2
      rw [h.tto] at hr
      by_cases e : sh = 0
      · rw [if_pos e] at hr; simp at hr
      · rw [if_neg e] at hr
        exact Or.inl ⟨rfl, by have := h.sh_; omega, by rw [List.mem_singleton.1 hr]⟩
    · refine Or.inr ?_
      have hle : q <= top := by
        rcases Nat.lt_or_ge top q with h' | h'
        · rw [h.free q h'] at hk; cases hk
        · exact h'
      have ht := h.top_
      obtain ⟨i, k, hi, hkn, rfl⟩ := dI_split (n := n) (d := d) (x := q) (by omega) (by omega)
      have hk0 : k = 0 := by
        rcases Nat.eq_zero_or_pos k with e | e
        · exact e
        · have := h.file i (k - 1) hi (by omega)
          rw [show dI n i + 1 + (k - 1) = dI n i + k by omega, hk] at this
          cases this
      subst hk0
      rw [Nat.add_zero, h.full i hi] at hr
      refine ⟨i, hi, rfl, ?_⟩
      rcases List.mem_append.1 hr with hr | hr
      · obtain ⟨k, hk', rfl⟩ := fsR_mem hr
        exact Or.inl ⟨k, hk', rfl⟩
      · by_cases e : i < d
        · rw [if_pos e] at hr
          exact Or.inr ⟨e, by rw [List.mem_singleton.1 hr]⟩
        · rw [if_neg e] at hr; simp at hr
theorem MvF.rank (h : MvF n d top sh K T) (tn : Nat) (hto : top <= tn) (hfew : d + sh + 1 + (if n = 0 then 0 else 1) <= 6) : RankT K T tn (rkM n d top sh) := by
  have ht := h.top_
  have hs := h.sh_
  have h2 := dI_two n d
  have hone : rkM n d top sh 1 = 0 := by unfold rkM; rw [if_pos rfl]
  have htop : rkM n d top sh top = 1 := by unfold rkM; rw [if_neg (by omega), if_pos rfl]
  have htwo : rkM n d top sh 2 = sh + 1 := by
    have := rkM_dir (n := n) (d := d) (top := top) (sh := sh) (i := 0) (Nat.zero_le _) ht
    exact this
  have hlt : ∀ i, i <= d -> 2 <= dI n i /\ dI n i + n < top := fun i hi => by
    have := dI_two n i
    rcases Nat.lt_or_ge i d with h' | h'
    · have := dI_lt (n := n) h'; omega
    · obtain rfl : i = d := by omega
      omega
  have hcase : ∀ x, 1 <= x -> K x ≠ 0 -> x = 1 \/ x = top \/ ∃ i k, i <= d /\ k <= n /\ x = dI n i + k := fun x x1 x2 => by
    rcases Nat.lt_or_ge top x with h' | h'
    · exact absurd (h.free x h') x2
    · by_cases e1 : x = 1
      · exact Or.inl e1
      · by_cases e2 : x = top
        · exact Or.inr (Or.inl e2)
        · exact Or.inr (Or.inr (dI_split (by omega) (by omega)))
  refine ⟨hone, fun q q1 q2 hk r hr => ?_, fun q q1 q2 hk => ?_, fun q q1 q2 hk => ?_, fun q q' q1 q2 hk q1' q2' hk' r hr r' hr' e => ?_, fun x x1 x2 hk hx => ?_⟩
  · rcases h.mem q1 hk hr with ⟨rfl, ⟨e0, e⟩ | e⟩ | ⟨rfl, e0, e⟩ | ⟨i, hi, rfl, ⟨k, hkn, e⟩ | ⟨hid, e⟩⟩
    · rw [e, htwo, hone]; omega
    · rw [e, htop, hone]
    · rw [e, htwo, htop]; omega
    · rw [e, rkM_file hi hkn ht, rkM_dir hi ht]; omega
    · rw [e, rkM_dir (by omega) ht, rkM_dir hi ht]; omega
  · rcases hcase q q1 hk with rfl | rfl | ⟨i, k, hi, hkn, rfl⟩
    · rw [hone]; omega
    · rw [htop]; omega
    · rcases Nat.eq_zero_or_pos k with e | e
      · subst e
        rw [Nat.add_zero, rkM_dir hi ht]
        split at hfew <;> omega
      · rw [show dI n i + k = dI n i + 1 + (k - 1) by omega, rkM_file hi (by omega) ht]
        rw [if_neg (by omega)] at hfew
        omega
  · rcases hcase q q1 (by rw [hk]; decide) with rfl | rfl | ⟨i, k, hi, hkn, rfl⟩
    · rw [h.t1]
      split
      · show ([2, top] : List Nat).Nodup
        simp
        omega
      · show ([top] : List Nat).Nodup
        simp
    · rw [h.tto]
      split <;> simp
    · have hk0 : k = 0 := by
        rcases Nat.eq_zero_or_pos k with e | e
        · exact e
        · have := h.file i (k - 1) hi (by omega)
          rw [show dI n i + 1 + (k - 1) = dI n i + k by omega, hk] at this
          cases this
      subst hk0
      rw [Nat.add_zero, h.full i hi, List.map_append, List.nodup_append]
      refine ⟨?_, by split <;> simp, fun a ha b hb => ?_⟩
      · have e : (fsR (dI n i) n).map Rec.id = (List.range n).map fun k => dI n i + 1 + k := by simp [fsR]
        rw [e]
        exact List.pairwise_map.2 (List.Pairwise.imp (fun {a b} hab e => hab (by omega)) (List.nodup_range (n := n)))
      · obtain ⟨r, hr, rfl⟩ := List.mem_map.1 ha
        obtain ⟨k, hk', rfl⟩ := fsR_mem hr
        split at hb
        · simp only [List.map_cons, List.map_nil, List.mem_singleton] at hb
          subst hb
          show dI n i + 1 + k ≠ dI n i + n + 1
          omega
        · simp at hb
  · have cc : ∀ i j k k', k < n -> k' < n -> dI n i + 1 + k = dI n j + 1 + k' -> i = j := fun i j k k' a b c => by
      rcases Nat.lt_trichotomy i j with h' | h' | h'
      · have := dI_lt (n := n) h'; omega
      · exact h'
      · have := dI_lt (n := n) h'; omega
    have cd : ∀ i j k, k < n -> dI n i + 1 + k ≠ dI n (j + 1) := fun i j k a c => by
      rcases Nat.lt_trichotomy i (j + 1) with h' | h' | h'
      · have := dI_lt (n := n) h'; omega
      · rw [h'] at c; omega
      · have := dI_lt (n := n) h'; omega
    have d2 : ∀ i, 2 < dI n (i + 1) := fun i => by have := dI_lt (n := n) (show 0 < i + 1 by omega); have e0 : dI n 0 = 2 := rfl; omega
    have dt : ∀ i, i < d -> dI n (i + 1) < top := fun i hi => by have := hlt (i + 1) (by omega); omega
    have ct : ∀ i k, i <= d -> k < n -> dI n i + 1 + k < top /\ 2 < dI n i + 1 + k := fun i k hi hk => by have := hlt i hi; omega
    rcases h.mem q1 hk hr with ⟨rfl, ⟨e0, e1⟩ | e1⟩ | ⟨rfl, e0, e1⟩ | ⟨i, hi, rfl, ⟨k, hkn, e1⟩ | ⟨hid, e1⟩⟩ <;> rcases h.mem q1' hk' hr' with ⟨rfl, ⟨f0, f1⟩ | f1⟩ | ⟨rfl, f0, f1⟩ | ⟨j, hj, rfl, ⟨k', hkn', f1⟩ | ⟨hjd, f1⟩⟩ <;> rw [e1, f1] at e
    all_goals first
      | rfl
      | (exfalso; omega)
      | (exfalso; have := d2 i; have := dt i hid; omega)
      | (exfalso; have := d2 j; have := dt j hjd; omega)
      | (exfalso; have := ct i k hi hkn; omega)
      | (exfalso; have := ct j k' hj hkn'; omega)
      | exact absurd e (cd i j k hkn)
      | exact absurd e.symm (cd j i k' hkn')
      | rw [cc i j k k' hkn hkn' e]
      | (have e' := dI_inj (n := n) e; rw [show i = j by omega])
  · rcases hcase x x1 hk with rfl | rfl | ⟨i, k, hi, hkn, rfl⟩
    · exact absurd rfl hx
    · exact ⟨1, Nat.le_refl _, by omega, h.root, ⟨[116, 111], _⟩, by rw [h.t1]; simp, rfl⟩
    · rcases Nat.eq_zero_or_pos k with e | e
      · subst e
        rcases Nat.eq_zero_or_pos i with e | e
        · subst e
          rcases hs with e | e
          · exact ⟨1, Nat.le_refl _, by omega, h.root, ⟨[100], 2⟩, by rw [h.t1, if_pos e]; simp, rfl⟩
          · exact ⟨top, by omega, hto, h.kto, ⟨[101], 2⟩, by rw [h.tto, if_neg (by omega)]; simp, rfl⟩
        · obtain ⟨j, rfl⟩ : ∃ j, i = j + 1 := ⟨i - 1, by omega⟩
          have hj := hlt j (by omega)
          have hj1 := dI_lt (n := n) (show j < j + 1 by omega)
          exact ⟨dI n j, by omega, by omega, h.dir j (by omega), ⟨[100], dI n (j + 1)⟩, by rw [h.full j (by omega), if_pos (by omega)]; simp, rfl⟩
      · have hj := hlt i hi
        refine ⟨dI n i, by omega, by omega, h.dir i hi, ⟨nmP 102 (k - 1), dI n i + 1 + (k - 1)⟩, ?_, by show dI n i + 1 + (k - 1) = dI n i + k; omega⟩
        rw [h.full i hi]
        exact List.mem_append.2 (Or.inl (List.mem_map.2 ⟨k - 1, List.mem_range.2 (by omega), rfl⟩))
end
section
variable {n d top : Nat} {K : Nat -> Nat} {T : Nat -> List Rec}
theorem MvI.to (h : MvI n d n K T) (ht : top = dI n d + n + 1) : MvF n d top 0 (upd K top 2) (upd T 1 (T 1 ++ [⟨[116, 111], top⟩])) := by
  have h2 := dI_two n d
  have hlt : ∀ i, i <= d -> 2 <= dI n i /\ dI n i + n < top := fun i hi => by
    have := dI_two n i
    rcases Nat.lt_or_ge i d with h' | h'
    · have := dI_lt (n := n) h'; omega
    · obtain rfl : i = d := by omega
      omega
  refine ⟨ht, Or.inl rfl, by rw [upd_other _ _ (by omega)]; exact h.root, upd_same _ _ _, fun i hi => ?_, fun i k hi hk => ?_, by rw [upd_same, h.t1]; rfl, ?_, fun i hi => ?_, fun x hx => ?_⟩
  · have := hlt i hi
    rw [upd_other _ _ (by omega)]
    exact h.dir i hi
  · have := hlt i hi
    rw [upd_other _ _ (by omega)]
    exact (h.file i k hi hk (fun _ => hk)).1
  · rw [upd_other _ _ (by omega), (h.free top (by omega)).2]
    rfl
  · have := hlt i hi
    rw [upd_other _ _ (by omega)]
    by_cases e : i < d
    · rw [if_pos e]; exact h.full i e
    · obtain rfl : i = d := by omega
      rw [if_neg e, List.append_nil]; exact h.last
  · rw [upd_other _ _ (by omega)]
    exact (h.free x (by omega)).1
theorem MvF.enter (h : MvF n d top 0 K T) : MvF n d top 1 K (upd (upd T 1 (dropR (T 1) 0)) top (T top ++ [⟨[101], 2⟩])) := by
  have ht := h.top_
  have h2 := dI_two n d
  have hlt : ∀ i, i <= d -> 2 <= dI n i /\ dI n i + n < top := fun i hi => by
    have := dI_two n i
    rcases Nat.lt_or_ge i d with h' | h'
    · have := dI_lt (n := n) h'; omega
    · obtain rfl : i = d := by omega
      omega
  refine ⟨ht, Or.inr rfl, h.root, h.kto, h.dir, h.file, ?_, ?_, fun i hi => ?_, h.free⟩
  · rw [upd_other _ _ (by omega), upd_same, h.t1]
    rfl
  · rw [upd_same, h.tto]
    rfl
  · have := hlt i hi
    rw [upd_other _ _ (by omega), upd_other _ _ (by omega)]
    exact h.full i hi
theorem MvF.down {sh : Nat} (h : MvF n d top sh K T) : ∀ i j, i + j <= d -> walkT K T (dI n i) (List.replicate j [100]) = .ok (dI n (i + j))
  | i, 0, _ => rfl
  | i, j + 1, hij => by
    have hk := h.dir i (by omega)
    have hl : lookT (T (dI n i)) [100] = some ⟨[100], dI n (i + 1)⟩ := by
      rw [h.full i (by omega), if_pos (by omega)]
      unfold lookT
      rw [List.find?_append, List.find?_eq_none.2 (fun r hr => by simpa using fsR_nod r hr)]
      rfl
    show walkT K T (dI n i) ([100] :: List.replicate j [100]) = _
    unfold walkT
    rw [if_pos hk, hl]
    have := h.down (i + 1) j (by omega)
    rw [show i + (j + 1) = i + 1 + j by omega]
    exact this
theorem MvF.walk0 (h : MvF n d top 0 K T) {j : Nat} (hj : j <= d) : walkT K T 1 ([100] :: List.replicate j [100]) = .ok (dI n j) := by
  unfold walkT
  rw [if_pos h.root, h.t1]
  have := h.down 0 j (by omega)
  rw [Nat.zero_add] at this
  exact this
theorem MvF.walk1 (h : MvF n d top 1 K T) {j : Nat} (hj : j <= d) : walkT K T 1 ([116, 111] :: [101] :: List.replicate j [100]) = .ok (dI n j) := by
  have h1 : lookT (T 1) [116, 111] = some ⟨[116, 111], top⟩ := by rw [h.t1]; rfl
  have h2 : lookT (T top) [101] = some ⟨[101], 2⟩ := by rw [h.tto]; rfl
  have := h.down 0 j (by omega)
  rw [Nat.zero_add] at this
  unfold walkT
  rw [if_pos h.root, h1]
  show walkT K T top ([101] :: List.replicate j [100]) = _
  unfold walkT
  rw [if_pos h.kto, h2]
  exact this
theorem MvF.look {sh : Nat} (h : MvF n d top sh K T) {i k : Nat} (hi : i <= d) (hk : k < n) (hn : n <= 100) : lookT (T (dI n i)) (nmP 102 k) = some ⟨nmP 102 k, dI n i + 1 + k⟩ := by
  have hs : ∃ q, lookT (T (dI n i)) (nmP 102 k) = some q := by
    obtain ⟨q, hq, -⟩ := look_has (L := T (dI n i)) (s := nmP 102 k) ⟨⟨nmP 102 k, dI n i + 1 + k⟩, by rw [h.full i hi]; exact List.mem_append.2 (Or.inl (List.mem_map.2 ⟨k, List.mem_range.2 hk, rfl⟩)), rfl⟩
    exact ⟨q, hq⟩
  obtain ⟨q, hq⟩ := hs
  obtain ⟨e, j, hj⟩ := lookT_some hq
  have hm := List.mem_of_getElem? hj
  rw [h.full i hi] at hm
  rcases List.mem_append.1 hm with hm | hm
  · obtain ⟨k', hk', rfl⟩ := fsR_mem hm
    have := nm_inj (c := 102) (i := k') (j := k) (by omega) (by omega) e
    subst this
    exact hq
  · split at hm
    · rw [List.mem_singleton.1 hm] at e
      exact absurd (List.cons.inj e).1 (by decide)
    · simp at hm
end
section
variable {n d top sh tn : Nat} {K : Nat -> Nat} {D : Nat -> List Int} {T : Nat -> List Rec}
theorem MvF.low (h : MvF n d top sh K T) {y : Nat} (y1 : 1 <= y) (y2 : K y ≠ 0) : rkM n d top sh y <= sh + 1 + d + (if n = 0 then 0 else 1) := by
  have ht := h.top_
  rcases Nat.lt_or_ge top y with h' | h'
  · exact absurd (h.free y h') y2
  · by_cases e1 : y = 1
    · subst e1
      unfold rkM
      rw [if_pos rfl]
      omega
    · by_cases e2 : y = top
      · subst e2
        unfold rkM
        rw [if_neg e1, if_pos rfl]
        omega
      · obtain ⟨i, k, hi, hkn, rfl⟩ := dI_split (n := n) (d := d) (x := y) (by omega) (by omega)
        rcases Nat.eq_zero_or_pos k with e | e
        · subst e
          rw [Nat.add_zero, rkM_dir hi ht]
          omega
        · rw [show dI n i + k = dI n i + 1 + (k - 1) by omega, rkM_file hi (by omega) ht, if_neg (by omega)]
          omega
theorem MvF.levels (h : MvF n d top sh K T) (ht : TreeOk tn K D T) (hto : top <= tn) (hfew : d + sh + 1 + (if n = 0 then 0 else 1) <= 6) : ∃ lv, LvOk K T tn 2 lv /\ lv.length = d + 1 + (if n = 0 then 0 else 1) := by
  have m := h.rank tn hto hfew
  have htop := h.top_
  have h2 : dI n 0 = 2 := rfl
  have hd2 := dI_two n d
  have k2 : K 2 = 2 := h.dir 0 (Nat.zero_le _)
  have hr2 : rkM n d top sh 2 = sh + 1 := rkM_dir (n := n) (d := d) (top := top) (sh := sh) (i := 0) (Nat.zero_le _) htop
  have hle : ∀ i, i <= d -> 2 <= dI n i /\ dI n i + n < top := fun i hi => by
    have := dI_two n i
    rcases Nat.lt_or_ge i d with h' | h'
    · have := dI_lt (n := n) h'; omega
    · obtain rfl : i = d := by omega
      omega
  have hdir : ∀ j, j <= d -> dI n j ∈ lvT K T 2 j := by
    intro j
    induction j with
    | zero => intro _; simp [lvT, h2]
    | succ j ih =>
      intro hj
      have hl := hle j (by omega)
      exact List.mem_flatMap.2 ⟨dI n j, ih (by omega), (kids_mem ht (by omega) (by omega)).2 ⟨h.dir j (by omega), ⟨[100], dI n (j + 1)⟩, by rw [h.full j (by omega), if_pos (by omega)]; simp, rfl⟩⟩
  obtain ⟨J, hJ⟩ : ∃ J, J = d + (if n = 0 then 0 else 1) := ⟨_, rfl⟩
  have hnil : lvT K T 2 (J + 1) = [] := List.eq_nil_iff_forall_not_mem.2 fun y hy => by
    obtain ⟨y1, y2, y3, y4⟩ := lv_in ht m (by omega) (by omega) (by rw [k2]; decide) (J + 1) y hy
    have := h.low y1 y3
    omega
  have hne : ∀ j, j <= J -> lvT K T 2 j ≠ [] := fun j hj e => by
    rcases Nat.lt_or_ge d j with h' | h'
    · have hn : n ≠ 0 := fun e' => by rw [if_pos e'] at hJ; omega
      rw [if_neg hn] at hJ
      have hjd : j = d + 1 := by omega
      subst hjd
      have hl := hle d (Nat.le_refl _)
      have : dI n d + 1 + 0 ∈ lvT K T 2 (d + 1) := List.mem_flatMap.2 ⟨dI n d, hdir d (Nat.le_refl _), (kids_mem ht (by omega) (by omega)).2 ⟨h.dir d (Nat.le_refl _), ⟨nmP 102 0, dI n d + 1 + 0⟩, by rw [h.full d (Nat.le_refl _)]; exact List.mem_append.2 (Or.inl (List.mem_map.2 ⟨0, List.mem_range.2 (by omega), rfl⟩)), rfl⟩⟩
      rw [e] at this
      simp at this
    · have := hdir j h'
      rw [e] at this
      simp at this
  refine ⟨_, lvok_rank ht m (by omega) (by omega) (by rw [k2]; decide) hnil hne, ?_⟩
  simp
  omega
end
theorem names_len (T : Nat -> List Rec) (x : Nat) : (namesT T x).length = (T x).length := by
  have h1 : (namesT T x).Perm ((T x).map Rec.s) := by unfold namesT; exact List.mergeSort_perm _ _
  rw [h1.length_eq, List.length_map]
theorem split_flat {l : List (List UInt8)} (hn : l ≠ []) (h6 : l.length <= 6) (hok : ∀ s ∈ l, okB s = true) : splitB (flatB l) = some l := by
  have hm : mayP l = true := by unfold mayP; simp [h6]; exact hok
  have := split_join hm
  unfold joinB at this
  rw [if_neg hn] at this
  exact this
theorem flat_app (l m : List (List UInt8)) : flatB (l ++ m) = flatB l ++ flatB m := by simp [flatB]
theorem flat_one (s : List UInt8) : flatB [s] = 47 :: s := by simp [flatB]
def pathD (i : Nat) : List UInt8 := flatB (List.replicate i [100])
theorem pathD_succ (i : Nat) : pathD (i + 1) = pathD i ++ [47, 100] := by
  unfold pathD
  rw [List.replicate_succ', flat_app, flat_one]
theorem pathD_len : ∀ i, (pathD i).length = 2 * i
  | 0 => rfl
  | i + 1 => by rw [pathD_succ, List.length_append, pathD_len i]; simp; omega
theorem d_ok : okB [100] = true := by decide
theorem pathD_split {i : Nat} (h1 : 1 <= i) (h6 : i <= 6) : splitB (pathD i) = some (List.replicate i [100]) :=
  split_flat (fun e => by have := congrArg List.length e; simp at this; omega) (by simpa using h6) (fun s hs => by rw [(List.mem_replicate.1 hs).2]; exact d_ok)
theorem pathD_file {i k : Nat} (h5 : i <= 5) (hk : k < 128) : splitB (pathD i ++ 47 :: nmP 102 k) = some (List.replicate i [100] ++ [nmP 102 k]) := by
  have := split_flat (l := List.replicate i [100] ++ [nmP 102 k]) (by simp) (by simp; omega) (fun s hs => by
    rcases List.mem_append.1 hs with h | h
    · rw [(List.mem_replicate.1 h).2]; exact d_ok
    · rw [List.mem_singleton.1 h]; exact (ok_fin ⟨k, hk⟩).2.1)
  rw [flat_app, flat_one] at this
  exact this
theorem pathT_split {i : Nat} (h4 : i <= 4) : splitB ([47, 116, 111, 47, 101] ++ pathD i) = some ([116, 111] :: [101] :: List.replicate i [100]) := by
  have := split_flat (l := [116, 111] :: [101] :: List.replicate i [100]) (by simp) (by simp; omega) (fun s hs => by
    rcases List.mem_cons.1 hs with h | h
    · rw [h]; decide
    · rcases List.mem_cons.1 h with h | h
      · rw [h]; decide
      · rw [(List.mem_replicate.1 h).2]; exact d_ok)
  rw [<- this]
  rfl
theorem pathT_file {i k : Nat} (h3 : i <= 3) (hk : k < 128) : splitB ([47, 116, 111, 47, 101] ++ pathD i ++ 47 :: nmP 102 k) = some ([116, 111] :: [101] :: List.replicate i [100] ++ [nmP 102 k]) := by
  have := split_flat (l := [116, 111] :: [101] :: List.replicate i [100] ++ [nmP 102 k]) (by simp) (by simp; omega) (fun s hs => by
    rcases List.mem_append.1 hs with hs | hs
    · rcases List.mem_cons.1 hs with h | h
      · rw [h]; decide
      · rcases List.mem_cons.1 h with h | h
        · rw [h]; decide
        · rw [(List.mem_replicate.1 h).2]; exact d_ok
    · rw [List.mem_singleton.1 hs]; exact (ok_fin ⟨k, hk⟩).2.1)
  rw [flat_app, flat_one] at this
  rw [<- this]
  rfl
theorem walk_snoc {K : Nat -> Nat} {T : Nat -> List Rec} {s : List UInt8} {r : Rec} {q : Nat} (hq : K q = 2) (hs : lookT (T q) s = some r) : ∀ (l : List (List UInt8)) (p : Nat), walkT K T p l = .ok q -> walkT K T p (l ++ [s]) = .ok r.id
  | [], p, h => by
    obtain rfl : p = q := by simpa [walkT] using h
    show walkT K T p [s] = _
    unfold walkT
    rw [if_pos hq, hs]
    rfl
  | a :: l, p, h => by
    show walkT K T p (a :: (l ++ [s])) = _
    unfold walkT at h ⊢
    by_cases hp : K p = 2
    · rw [if_pos hp] at h ⊢
      cases ha : lookT (T p) a with
      | none => rw [ha] at h; cases h
      | some b =>
        rw [ha] at h
        exact walk_snoc hq hs l b.id h
    · rw [if_neg hp] at h
      cases h
theorem bk_step : ∀ i : Fin 20, bkL (i.val + 1) <= bkL i.val + 1 /\ bkL i.val <= bkL (i.val + 1) := by decide +kernel
theorem dI_le {n d : Nat} (hn : n <= 7) : dI n d <= 2 + 8 * d := by
  induction d with
  | zero => exact Nat.le_refl _
  | succ d ih =>
    show dI n d + n + 1 <= _
    omega
theorem dI_fne {n i k j : Nat} (hk : k < n) : dI n i + 1 + k ≠ dI n j := fun e => by
  rcases Nat.lt_trichotomy i j with h' | h' | h'
  · have := dI_lt (n := n) h'; omega
  · subst h'; omega
  · have := dI_lt (n := n) h'; omega
theorem dI_finj {n i j k k' : Nat} (hk : k < n) (hk' : k' < n) (e : dI n i + 1 + k = dI n j + 1 + k') : i = j /\ k = k' := by
  rcases Nat.lt_trichotomy i j with h' | h' | h'
  · have := dI_lt (n := n) h'; omega
  · subst h'; exact ⟨rfl, by omega⟩
  · have := dI_lt (n := n) h'; omega
theorem dI_flt {n i j k : Nat} (hij : i <= j) (hk : k < n) : dI n i + 1 + k < dI n j + n + 1 := by
  rcases Nat.lt_or_ge i j with h' | h'
  · have := dI_lt (n := n) h'; omega
  · obtain rfl : i = j := by omega
    omega
def fileB (i : Nat) : List Int := bI (pathD (i + 1))
theorem fileB_len (i : Nat) : (fileB i).length = 2 * (i + 1) := by unfold fileB; rw [bI_len, pathD_len]
def mvP (n d m : Nat) (D : Nat -> List Int) (f : Nat) : Prop := 125 <= f + 2 * (dI n d + m) /\ ∀ i k, i <= d -> k < n -> (i = d -> k < m) -> D (dI n i + 1 + k) = fileB i
def mvB (n d : Nat) (D : Nat -> List Int) : Prop := ∀ i k, i <= d -> k < n -> D (dI n i + 1 + k) = fileB i
section
variable {fb hb xb lim n d m : Nat} {P P' : (Nat -> List Int) -> Nat -> Prop} {K : Nat -> Nat} {T : Nat -> List Rec} {w0 w w' : World}
theorem GrS.imp {rs N dd : Nat} (h : GrS rs fb hb xb N dd P K T lim w0 w) (hP : ∀ D f, P D f -> P' D f) : GrS rs fb hb xb N dd P' K T lim w0 w := by
  obtain ⟨⟨E, ⟨⟨D, f, hp, h0⟩, h1, h2, h3, h4, h5⟩, he⟩, hg⟩ := h
  exact ⟨⟨E, ⟨⟨D, f, hP D f hp, h0⟩, h1, h2, h3, h4, h5⟩, he⟩, hg⟩
theorem GrS.tree {rs N dd : Nat} (h : GrS rs fb hb xb N dd P K T lim w0 w) : ∃ D, TreeOk N K D T := by
  obtain ⟨⟨E, ⟨⟨D, f, hp, h0⟩, h1, h2, h3, h4, h5⟩, he⟩, hg⟩ := h
  rw [<- h4]
  exact ⟨D, h0.tree⟩
theorem bytesC_any {a b : Nat} {v : Value} {zs : List Int} (h : BytesC a w v zs) (hb : ∀ j, w.cell? ⟨b, j, none⟩ = none) : BytesC b w v zs := by
  obtain ⟨c, cap, e, h1, h2, h3, h4, hc⟩ := h
  refine ⟨c, cap, e, h1, h2, h3, h4, fun hne => ?_⟩
  obtain ⟨x, off, ea, hx, -, hk⟩ := hc hne
  refine ⟨x, off, ea, hx, fun eb => ?_, hk⟩
  subst eb
  have := hk 0 (List.length_pos_iff.2 hne)
  rw [hb] at this
  cases this
theorem GrR.bytes {rs N dd a : Nat} {E : TE} (h : GrR rs fb hb xb N dd P K T lim E w) {v : Value} {zs : List Int} (hv : BytesC a w v zs) : BytesC E.mb w v zs := by
  obtain ⟨D, f, -, hz⟩ := h.st
  exact bytesC_any hv (fun j => hz.s.to.mapNo j)
theorem GrS.fb_lt {rs N dd : Nat} (h : GrS rs fb hb xb N dd P K T lim w0 w) : fb < w.heap.size := by
  obtain ⟨⟨E, ⟨⟨D, f, hp, h0⟩, h1, h2, h3, h4, h5⟩, he⟩, hg⟩ := h
  exact h0.at_.lt
theorem MvI.low (h : MvI n d m K T) {x : Nat} (x1 : 1 <= x) (x2 : x <= dI n d + m) (hm : m <= n) : K x ≠ 0 := by
  by_cases e : x = 1
  · subst e; rw [h.root]; decide
  · obtain ⟨i, k, hi, hk, rfl⟩ := dI_split (n := n) (d := d) (x := x) (by omega) (by omega)
    rcases Nat.eq_zero_or_pos k with e | e
    · subst e; rw [Nat.add_zero, h.dir i hi]; decide
    · have := h.file i (k - 1) hi (by omega) (fun e' => by subst e'; omega)
      rw [show dI n i + 1 + (k - 1) = dI n i + k by omega] at this
      rw [this.1]; decide
def MvS (fb hb xb n d m lim : Nat) (w0 w : World) : Prop := ∃ K T, MvI n d m K T /\ GrS 2 fb hb xb 60 123 (mvP n d m) K T lim w0 w
def MvH (fb hb xb n : Nat) : Nat -> Nat -> World -> World -> Prop
  | 0, lim, w0, w => GrS 2 fb hb xb 60 123 (fun _ f => f = 123) rootK (fun _ => []) lim w0 w
  | i + 1, lim, w0, w => MvS fb hb xb n i n lim w0 w
theorem MvS.x1 (h : MvS fb hb xb n d m lim w0 w) : w.cell? ⟨xb, 1, none⟩ = some (ptr fb) := by
  obtain ⟨K, T, -, h2⟩ := h
  exact h2.x1
theorem MvS.below (h : MvS fb hb xb n d m lim w0 w) (hB : Below w.heap.size w w') : MvS fb hb xb n d m lim w0 w' := by
  obtain ⟨K, T, h1, h2⟩ := h
  exact ⟨K, T, h1, h2.below hB⟩
theorem MvS.up {lim' : Nat} (h : MvS fb hb xb n d m lim w0 w) (hl : lim <= lim') : MvS fb hb xb n d m lim' w0 w := by
  obtain ⟨K, T, h1, h2⟩ := h
  exact ⟨K, T, h1, h2.up hl⟩
theorem MvH.x1 {i : Nat} (h : MvH fb hb xb n i lim w0 w) : w.cell? ⟨xb, 1, none⟩ = some (ptr fb) := by
  cases i with
  | zero => exact GrS.x1 h
  | succ i => exact MvS.x1 h
theorem MvH.up {i lim' : Nat} (h : MvH fb hb xb n i lim w0 w) (hl : lim <= lim') : MvH fb hb xb n i lim' w0 w := by
  cases i with
  | zero => exact GrS.up h hl
  | succ i => exact MvS.up h hl
theorem mv_new {E : TE} (hN : New11 280 60 2 123 w0 E fb hb xb w) (hg : GT w0) : MvH fb hb xb n 0 6000 w0 w := gr_new hN hg rfl
theorem mv_mkdir {i : Nat} (h : MvH fb hb xb n i lim w0 w) (hn : n <= 7) (hi : i <= 4) (hlim : lim <= 300000000) :
    Calls Tryz.prog 6 #[ptr fb, .string (mkB (pathD (i + 1)))] w fun e w' => e = .returned .nilIface /\ MvS fb hb xb n i 0 (lim + 1000) w0 w' := by
  cases i with
  | zero =>
    have h' : GrS 2 fb hb xb 60 123 (fun _ f => f = 123) rootK (fun _ => []) lim w0 w := h
    refine (gr_mkdir h' (s := [100]) (l := []) (p := 1) (id := 2) (P' := mvP n 0 0) (by decide) (by exact pathD_split (i := 1) (by omega) (by omega)) (by rfl) (by rfl) (by simp) (by omega) (by omega) (by rfl) rfl (fun i a b => by have e : i = 1 := (by omega); rw [e]; decide) (fun D f hf => by omega) (fun D f f' hf hD e => ?_) hlim).mono ?_
    · have b0 := bk_step ⟨0, by omega⟩
      simp only [List.length_nil] at e b0
      refine ⟨?_, fun i k a b c => absurd (c (by omega)) (by omega)⟩
      show 125 <= f' + 2 * (2 + 0)
      omega
    · rintro e w' ⟨rfl, hS⟩
      refine ⟨rfl, _, _, ?_, hS⟩
      refine ⟨by rfl, by rfl, fun i hi => ?_, fun i hi => absurd hi (by omega), by rfl, fun i k a b c => absurd (c (by omega)) (by omega), fun x hx => ?_⟩
      · obtain rfl : i = 0 := by omega
        rfl
      · have hx' : 2 + 0 < x := hx
        refine ⟨?_, ?_⟩
        · unfold rootK
          rw [upd_other _ _ (by omega), upd_other _ _ (by omega)]
        · rw [upd_other _ _ (by omega)]
  | succ j =>
    obtain ⟨K, T, hM, hS⟩ := (show MvS fb hb xb n j n lim w0 w from h)
    have hle := dI_le (n := n) (d := j) hn
    have h2 := dI_two n j
    have hs : dI n (j + 1) = dI n j + n + 1 := rfl
    have hlen : (T (dI n j)).length = n := by rw [hM.last, fsR_len]
    refine (gr_mkdir hS (s := [100]) (l := List.replicate (j + 1) [100]) (p := dI n j) (id := dI n (j + 1)) (P' := mvP n (j + 1) 0) (by rw [pathD_len]; omega) (by rw [pathD_split (by omega) (by omega), List.replicate_succ']) (hM.dirT (Nat.le_refl _)) (lookN (by rw [hM.last]; exact fsR_nod)) (by rw [hlen]; omega) (by omega) (by omega) (hM.free _ (by omega)).1 (hM.free _ (by omega)).2 (fun x x1 x2 => hM.low x1 (by omega) (Nat.le_refl _)) (fun D f hf => by have := hf.1; omega) (fun D f f' hf hD e => ?_) hlim).mono ?_
    · have b0 := bk_step ⟨n, by omega⟩
      rw [hlen] at e
      simp only [] at b0
      refine ⟨by have := hf.1; omega, fun i k a b c => ?_⟩
      have hij : i <= j := by
        rcases Nat.lt_or_ge j i with h' | h'
        · have := c (by omega); omega
        · exact h'
      rw [upd_other _ _ (dI_fne b)]
      exact hf.2 i k hij b (fun _ => b)
    · rintro e w' ⟨rfl, hS'⟩
      exact ⟨rfl, _, _, hM.mkdir, hS'⟩
theorem mv_put (h : MvS fb hb xb n d m lim w0 w) (hn : n <= 7) (hd : d <= 4) (hm : m < n) {a : Nat} {bv : Value} (hbv : BytesC a w bv (fileB d)) (hlim : lim <= 300000000) :
    Calls Tryz.prog 8 #[ptr fb, .string (mkB (pathD (d + 1) ++ 47 :: nmP 102 m)), bv] w fun e w' => e = .returned .nilIface /\ MvS fb hb xb n d (m + 1) (lim + 1000) w0 w' := by
  obtain ⟨K, T, hM, hS⟩ := h
  have hle := dI_le (n := n) (d := d) hn
  have h2 := dI_two n d
  have hlen : (T (dI n d)).length = m := by rw [hM.last, fsR_len]
  have hfl := fileB_len d
  have hnm : (nmP 102 m).length <= 30 := by
    have := nm_size (i := m) (by omega)
    have e : (itoaB (m : Int)).size = (Lib.itoa (m : Int)).length := by simp [ByteArray.size]
    show (Lib.itoa (m : Int)).length + 1 <= 30
    omega
  refine (gr_put hS (s := nmP 102 m) (l := List.replicate (d + 1) [100]) (p := dI n d) (id := dI n d + 1 + m) (P' := mvP n d (m + 1)) (fun E hR => hR.bytes hbv) (by omega) (by rw [List.length_append, pathD_len, List.length_cons]; omega) (pathD_file (by omega) (by omega)) (hM.dirT (Nat.le_refl _)) (lookN (by rw [hM.last]; exact fsR_no (Nat.le_refl _) (by omega))) (by rw [hlen]; omega) (by omega) (by omega) (hM.free _ (by omega)).1 (fun x x1 x2 => hM.low x1 (by omega) (by omega)) (bn := 1) (by rw [hfl]; unfold growb blk; split <;> split <;> omega) (fun D f hf => by have := hf.1; omega) (fun D f f' hf hD e => ?_) hlim).mono ?_
  · have b0 := bk_step ⟨m, by omega⟩
    rw [hlen] at e
    simp only [] at b0
    refine ⟨by have := hf.1; omega, fun i k a b c => ?_⟩
    by_cases e1 : dI n i + 1 + k = dI n d + 1 + m
    · obtain ⟨rfl, rfl⟩ := dI_finj b hm e1
      rw [upd_same]
    · rw [upd_other _ _ e1, upd_other _ _ (dI_fne b)]
      exact hf.2 i k a b (fun e' => by subst e'; have := c rfl; omega)
  · rintro e w' ⟨rfl, hS'⟩
    exact ⟨rfl, _, _, hM.put hm, hS'⟩
def MvW (fb hb xb n d sh lim : Nat) (Q : (Nat -> List Int) -> Nat -> Prop) (w0 w : World) : Prop := ∃ K T, MvF n d (dI n d + n + 1) sh K T /\ GrS 2 fb hb xb 60 123 Q K T lim w0 w
def mvQ (n d : Nat) (D : Nat -> List Int) (f : Nat) : Prop := 4 <= f /\ mvB n d D
theorem MvW.x1 {sh : Nat} {Q : (Nat -> List Int) -> Nat -> Prop} (h : MvW fb hb xb n d sh lim Q w0 w) : w.cell? ⟨xb, 1, none⟩ = some (ptr fb) := by
  obtain ⟨K, T, -, h2⟩ := h
  exact h2.x1
theorem MvW.below {sh : Nat} {Q : (Nat -> List Int) -> Nat -> Prop} (h : MvW fb hb xb n d sh lim Q w0 w) (hB : Below w.heap.size w w') : MvW fb hb xb n d sh lim Q w0 w' := by
  obtain ⟨K, T, h1, h2⟩ := h
  exact ⟨K, T, h1, h2.below hB⟩
theorem MvW.up {sh lim' : Nat} {Q : (Nat -> List Int) -> Nat -> Prop} (h : MvW fb hb xb n d sh lim Q w0 w) (hl : lim <= lim') : MvW fb hb xb n d sh lim' Q w0 w := by
  obtain ⟨K, T, h1, h2⟩ := h
  exact ⟨K, T, h1, h2.up hl⟩
theorem MvW.is {sh : Nat} {Q : (Nat -> List Int) -> Nat -> Prop} (h : MvW fb hb xb n d sh lim Q w0 w) {op nm : ByteArray} {k : Int} {ev : Value} (he : ErN op nm k ev w) (hk : (k == 0) = false) :
    Calls Tryz.prog 18 #[ev, .string op, .string nm, .int .i64 k] w fun e w' => e = .returned (.bool true) /\ MvW fb hb xb n d sh lim Q w0 w' := by
  obtain ⟨K, T, h1, h2⟩ := h
  refine (gr_is h2 he hk).mono ?_
  rintro e w' ⟨rfl, h3⟩
  exact ⟨rfl, K, T, h1, h3⟩
theorem mv_to (h : MvH fb hb xb n (d + 1) lim w0 w) (hn : n <= 7) (hd : d <= 4) (hlim : lim <= 300000000) :
    Calls Tryz.prog 6 #[ptr fb, .string ⟨#[47, 116, 111]⟩] w fun e w' => e = .returned .nilIface /\ MvW fb hb xb n d 0 (lim + 1000) (mvQ n d) w0 w' := by
  obtain ⟨K, T, hM, hS⟩ := (show MvS fb hb xb n d n lim w0 w from h)
  have hle := dI_le (n := n) (d := d) hn
  have h2 := dI_two n d
  have hlen : (T 1).length = 1 := by rw [hM.t1]; rfl
  refine (gr_mkdir hS (path := [47, 116, 111]) (s := [116, 111]) (l := []) (p := 1) (id := dI n d + n + 1) (P' := mvQ n d) (by decide) (by decide) (by unfold dirT; exact if_pos hM.root) (by rw [hM.t1]; rfl) (by rw [hlen]; omega) (by omega) (by omega) (hM.free _ (by omega)).1 (hM.free _ (by omega)).2 (fun x x1 x2 => hM.low x1 (by omega) (Nat.le_refl _)) (fun D f hf => by have := hf.1; omega) (fun D f f' hf hD e => ?_) hlim).mono ?_
  · have b0 := bk_step ⟨1, by omega⟩
    rw [hlen] at e
    simp only [] at b0
    refine ⟨by have := hf.1; omega, fun i k a b => ?_⟩
    have := dI_two n i
    rw [upd_other _ _ (by omega)]
    exact hf.2 i k a b (fun _ => b)
  · rintro e w' ⟨rfl, hS'⟩
    exact ⟨rfl, _, _, hM.to rfl, hS'⟩
theorem MvF.at0 {top : Nat} (h : MvF n d top 0 K T) : (T 1)[0]? = some ⟨[100], 2⟩ := by rw [h.t1]; rfl
theorem mv_loop (h : MvW fb hb xb n d 0 lim (mvQ n d) w0 w) :
    Calls Tryz.prog 19 #[ptr fb, .string ⟨#[47, 100]⟩, .string ⟨#[47, 100, 47, 105, 110]⟩] w fun e w' => ∃ ev, e = .returned ev /\ ErN sRename ⟨#[47, 100]⟩ 20 ev w' /\ MvW fb hb xb n d 0 lim (mvQ n d) w0 w' := by
  obtain ⟨K, T, hM, hS⟩ := h
  refine (gr_loop hS (a := [47, 100]) (b := [47, 100, 47, 105, 110]) (s := [100]) (t := [105, 110]) (l := []) (l2 := [[100]]) (p := 1) (i := 0) (r := ⟨[100], 2⟩) (lv := []) ⟨by decide, by decide, by decide, by decide, by decide, by decide, by unfold dirT; exact if_pos hM.root, hM.at0, rfl⟩).mono ?_
  rintro e w' ⟨ev, rfl, he, hS'⟩
  exact ⟨ev, rfl, he, K, T, hM, hS'⟩
theorem mv_deep (h : MvW fb hb xb n d 0 lim (mvQ n d) w0 w) (hn : n <= 7) (hd : d <= 4) (hdeep : 6 < d + 2 + (if n = 0 then 0 else 1)) :
    Calls Tryz.prog 19 #[ptr fb, .string ⟨#[47, 100]⟩, .string ⟨#[47, 116, 111, 47, 101]⟩] w fun e w' => ∃ ev, e = .returned ev /\ ErN sRename ⟨#[47, 100]⟩ 10 ev w' /\ MvW fb hb xb n d 0 lim (fun D _ => mvB n d D) w0 w' := by
  obtain ⟨K, T, hM, hS⟩ := h
  have hle := dI_le (n := n) (d := d) hn
  obtain ⟨D, ht⟩ := hS.tree
  obtain ⟨lv, hlv, hll⟩ := hM.levels ht (by omega) (by split <;> omega)
  refine (gr_deep hS (a := [47, 100]) (b := [47, 116, 111, 47, 101]) (s := [100]) (t := [101]) (l := []) (l2 := [[116, 111]]) (p := 1) (i := 0) (r := ⟨[100], 2⟩) (lv := lv) ⟨by decide, by decide, by decide, by decide, by decide, by decide, by unfold dirT; exact if_pos hM.root, hM.at0, rfl, hlv, by rw [hll]; split <;> omega, by rw [hll]; show 8 <= 1 + 1 + _; omega⟩).mono ?_
  rintro e w' ⟨ev, rfl, he, hS'⟩
  exact ⟨ev, rfl, he, K, T, hM, hS'.imp (fun _ _ hq => hq.2)⟩
theorem mv_move (h : MvW fb hb xb n d 0 lim (mvQ n d) w0 w) (hn : n <= 7) (hd : d <= 4) (hdeep : d + 2 + (if n = 0 then 0 else 1) <= 6) (hlim : lim <= 300000000) :
    Calls Tryz.prog 19 #[ptr fb, .string ⟨#[47, 100]⟩, .string ⟨#[47, 116, 111, 47, 101]⟩] w fun e w' => e = .returned .nilIface /\ MvW fb hb xb n d 1 (lim + 1000) (fun D _ => mvB n d D) w0 w' := by
  obtain ⟨K, T, hM, hS⟩ := h
  have hle := dI_le (n := n) (d := d) hn
  have h2 := dI_two n d
  obtain ⟨D, ht⟩ := hS.tree
  obtain ⟨lv, hlv, hll⟩ := hM.levels ht (by omega) (by split <;> omega)
  have htop : T (dI n d + n + 1) = [] := by rw [hM.tto]; rfl
  refine (gr_enter hS (a := [47, 100]) (b := [47, 116, 111, 47, 101]) (s := [100]) (t := [101]) (l := []) (l2 := [[116, 111]]) (p := 1) (q := dI n d + n + 1) (i := 0) (r := ⟨[100], 2⟩) (lv := lv) (P' := fun D _ => mvB n d D) ⟨by decide, by decide, by decide, by decide, by decide, by decide, by unfold dirT; exact if_pos hM.root, ?_, hM.at0, rfl, by rw [htop]; rfl, hlv, by rw [hll]; show 1 + 1 + _ <= 7; omega, by rw [htop]; decide, by omega, by simp⟩ (fun D f hf => hf.1) (fun D f f' hf e => fun i k a b => ?_) hlim).mono ?_
  · have hl : lookT (T 1) [116, 111] = some ⟨[116, 111], dI n d + n + 1⟩ := by rw [hM.t1]; rfl
    have hw : walkT K T 1 [[116, 111]] = .ok (dI n d + n + 1) := by
      unfold walkT
      rw [if_pos hM.root, hl]
      rfl
    unfold dirT
    rw [hw]
    exact if_pos hM.kto
  · have h3 := dI_two n i
    have h4 := dI_flt a b
    rw [upd_other _ _ (by omega), upd_other _ _ (by omega)]
    exact hf.2 i k a b
  · rintro e w' ⟨rfl, hS'⟩
    exact ⟨rfl, _, _, hM.enter, hS'⟩
def pathS (sh : Nat) : Nat -> List UInt8
  | 0 => if sh = 0 then [47, 100] else [47, 116, 111, 47, 101]
  | i + 1 => pathS sh i ++ [47, 100]
theorem pathS0 : ∀ i, pathS 0 i = pathD (i + 1)
  | 0 => rfl
  | i + 1 => by
    rw [pathD_succ, <- pathS0 i]
    rfl
theorem pathS1 : ∀ i, pathS 1 i = [47, 116, 111, 47, 101] ++ pathD i
  | 0 => rfl
  | i + 1 => by
    rw [pathD_succ, <- List.append_assoc, <- pathS1 i]
    rfl
theorem pathS_len (sh : Nat) : ∀ i, (pathS sh i).length <= 5 + 2 * i
  | 0 => by unfold pathS; split <;> simp
  | i + 1 => by
    have := pathS_len sh i
    show (pathS sh i ++ [47, 100]).length <= _
    rw [List.length_append]
    simp
    omega
def namesS (sh i : Nat) : List (List UInt8) := if sh = 0 then List.replicate (i + 1) [100] else [116, 111] :: [101] :: List.replicate i [100]
theorem pathS_split {sh i : Nat} (hs : sh = 0 \/ sh = 1) (h4 : i <= 4) : splitB (pathS sh i) = some (namesS sh i) := by
  rcases hs with rfl | rfl
  · rw [pathS0]; exact pathD_split (by omega) (by omega)
  · rw [pathS1]; exact pathT_split h4
theorem pathS_file {sh i k : Nat} (hs : sh = 0 \/ sh = 1) (h4 : i <= 4) (h3 : sh = 1 -> i <= 3) (hk : k < 128) : splitB (pathS sh i ++ 47 :: nmP 102 k) = some (namesS sh i ++ [nmP 102 k]) := by
  rcases hs with rfl | rfl
  · rw [pathS0]; exact pathD_file (by omega) hk
  · rw [pathS1]; exact pathT_file (h3 rfl) hk
theorem MvF.walkS {top sh i : Nat} (h : MvF n d top sh K T) (hi : i <= d) : walkT K T 1 (namesS sh i) = .ok (dI n i) := by
  rcases h.sh_ with rfl | rfl
  · exact h.walk0 hi
  · exact h.walk1 hi
theorem mv_list {sh i : Nat} (h : MvW fb hb xb n d sh lim (fun D _ => mvB n d D) w0 w) (_hn : n <= 7) (hd : d <= 4) (hi : i <= d) (hlim : lim <= 300000000) :
    Calls Tryz.prog 20 #[ptr fb, .string (mkB (pathS sh i))] w fun e w' => (∃ a c, e = .returned (.tuple #[.slice a (n + (if i < d then 1 else 0)) c, .nilIface])) /\ MvW fb hb xb n d sh (lim + 1000) (fun D _ => mvB n d D) w0 w' := by
  obtain ⟨K, T, hM, hS⟩ := h
  have hl := pathS_len sh i
  refine (gr_list hS (by omega) (pathS_split hM.sh_ (by omega)) (hM.walkS hi) (hM.dir i hi) hlim).mono ?_
  rintro e w' ⟨⟨v, rfl, hV⟩, hS'⟩
  obtain ⟨a, c, rfl⟩ := hV.form
  refine ⟨⟨a, c, ?_⟩, K, T, hM, hS'⟩
  rw [names_len, hM.full i hi, List.length_append, fsR_len]
  split <;> rfl
theorem mv_get {sh i k : Nat} (h : MvW fb hb xb n d sh lim (fun D _ => mvB n d D) w0 w) (hn : n <= 7) (hd : d <= 4) (hi : i <= d) (h3 : sh = 1 -> i <= 3) (hk : k < n) (hlim : lim <= 300000000) :
    Calls Tryz.prog 21 #[ptr fb, .string (mkB (pathS sh i ++ 47 :: nmP 102 k))] w fun e w' => (∃ a c, e = .returned (.tuple #[.slice a (2 * (i + 1)) c, .nilIface])) /\ MvW fb hb xb n d sh (lim + 1000) (fun D _ => mvB n d D) w0 w' := by
  obtain ⟨K, T, hM, hS⟩ := h
  have hl := pathS_len sh i
  have hnm : (nmP 102 k).length <= 30 := by
    have := nm_size (i := k) (by omega)
    have e : (itoaB (k : Int)).size = (Lib.itoa (k : Int)).length := by simp [ByteArray.size]
    show (Lib.itoa (k : Int)).length + 1 <= 30
    omega
  refine (gr_get hS (zs := fileB i) (q := dI n i + 1 + k) (by rw [List.length_append, List.length_cons]; omega) (pathS_file hM.sh_ (by omega) h3 (by omega)) (walk_snoc (hM.dir i hi) (hM.look hi hk (by omega)) _ _ (hM.walkS hi)) (hM.file i k hi hk) (fun D f hq => hq i k hi hk) hlim).mono ?_
  rintro e w' ⟨⟨v, rfl, hV⟩, hS'⟩
  have hfl := fileB_len i
  obtain ⟨b, c, rfl, -⟩ := hV.form (fun e => by rw [e] at hfl; simp at hfl)
  refine ⟨⟨some ⟨b, 0, none⟩, c, ?_⟩, K, T, hM, hS'⟩
  rw [hfl]
theorem mv_check {sh : Nat} (h : MvW fb hb xb n d sh lim (fun D _ => mvB n d D) w0 w) (hn : n <= 7) (_hd : d <= 4) (hfew : d + sh + 1 + (if n = 0 then 0 else 1) <= 6) (hlim : lim <= 300000000) :
    Calls Tryz.prog 14 #[ptr fb] w fun e w' => e = .returned .nilIface /\ Below w0.heap.size w0 w' /\ Ground w' /\ GT w' := by
  obtain ⟨K, T, hM, hS⟩ := h
  have hle := dI_le (n := n) (d := d) hn
  refine (gr_check hS (hM.rank 60 (by omega) hfew) (by omega) hlim).mono ?_
  rintro e w' ⟨rfl, hS'⟩
  exact ⟨rfl, hS'.bel, hS'.ground, hS'.gt⟩
end
end Go.Proofs.YtleafmdjhmnjmaaGreatDoor
