/- Numbers laid into rows of bytes, the lowest byte first, and read again. -/
import Derived.Test.YtpofmiecjkghgaaGreatDoorGWp
namespace Go.Proofs.YtpofmiecjkghgaaGreatDoor
open Go.RowKit
set_option maxRecDepth 100000
def byteK (n : Int) (k : Nat) : Int := n / 256 ^ k % 256
def putK (zs : List Int) (i : Nat) (n : Int) : Nat -> List Int
  | 0 => zs
  | k + 1 => (putK zs i n k).set (8 * i + k) (byteK n k)
abbrev putL (zs : List Int) (i : Nat) (n : Int) : List Int := putK zs i n 8
def getK (zs : List Int) (i : Nat) : Nat -> Int
  | 0 => 0
  | k + 1 => getK zs i k + zs.getD (8 * i + k) 0 * 256 ^ k
abbrev getL (zs : List Int) (i : Nat) : Int := getK zs i 8
theorem putK_len (zs : List Int) (i : Nat) (n : Int) : ∀ k, (putK zs i n k).length = zs.length
  | 0 => rfl
  | k + 1 => by rw [putK, List.length_set, putK_len]
theorem getK_range (zs : List Int) (i : Nat) (hr : ∀ k, 0 <= zs.getD k 0 /\ zs.getD k 0 <= 255) : ∀ K, 0 <= getK zs i K /\ getK zs i K < 256 ^ K
  | 0 => by simp [getK]
  | K + 1 => by
    have h := getK_range zs i hr K
    have h2 := hr (8 * i + K)
    rw [getK, Int.pow_succ]
    have hp : (0 : Int) < 256 ^ K := Int.pow_pos (by omega)
    generalize zs.getD (8 * i + K) 0 = z at h2
    generalize (256 : Int) ^ K = p at h hp
    generalize getK zs i K = q at h
    refine ⟨by have := Int.mul_nonneg h2.1 (Int.le_of_lt hp); omega, ?_⟩
    have : z * p <= 255 * p := Int.mul_le_mul_of_nonneg_right h2.2 (Int.le_of_lt hp)
    omega
theorem putK_append (zs ys : List Int) (i : Nat) (n : Int) (hi : 8 * i + 8 <= zs.length) : ∀ k, k <= 8 -> putK (zs ++ ys) i n k = putK zs i n k ++ ys
  | 0, _ => rfl
  | k + 1, hk => by rw [putK, putK, putK_append zs ys i n hi k (by omega), List.set_append_left _ _ (by rw [putK_len]; omega)]
theorem putK_range (zs : List Int) (i : Nat) (n : Int) (hr : ∀ z ∈ zs, 0 <= z /\ z <= 255) : ∀ k, ∀ z ∈ putK zs i n k, 0 <= z /\ z <= 255
  | 0 => hr
  | k + 1 => fun z hz => by
    rcases List.mem_or_eq_of_mem_set hz with h | rfl
    · exact putK_range zs i n hr k z h
    · unfold byteK; omega
def chunk (zs : List Int) (i : Nat) : List Int := (zs.drop (i * 128)).take 128
theorem chunk_len (zs : List Int) (i : Nat) (h : i * 128 + 128 <= zs.length) : (chunk zs i).length = 128 := by simp [chunk]; omega
theorem chunk_range (zs : List Int) (i : Nat) (hr : ∀ z ∈ zs, 0 <= z /\ z <= 255) : ∀ z ∈ chunk zs i, 0 <= z /\ z <= 255 := fun z hz => hr z (List.mem_of_mem_drop (List.mem_of_mem_take hz))
abbrev Grp := List (Nat × List Int)
abbrev nob (l : Grp) (k : Nat) : Nat := (l.getD k (0, [])).1
abbrev dat (l : Grp) (k : Nat) : List Int := (l.getD k (0, [])).2
def rowsN (n : Nat) : Nat := n / 16 + min (n % 16) 1
def numK (l : Grp) : Nat -> List Int
  | 0 => List.replicate (rowsN l.length * 128) 0
  | k + 1 => putL (numK l k) k (nob l k)
def datK (l : Grp) : Nat -> List Int
  | 0 => []
  | k + 1 => datK l k ++ dat l k
def bodyK (l : Grp) (k : Nat) : List Int := numK l k ++ datK l k
abbrev bodyL (l : Grp) : List Int := bodyK l l.length
theorem rowsN_room (n k : Nat) (h : k < n) : 8 * k + 8 <= rowsN n * 128 := by unfold rowsN; omega
theorem numK_len (l : Grp) : ∀ k, (numK l k).length = rowsN l.length * 128
  | 0 => by simp [numK]
  | k + 1 => by rw [numK, putK_len, numK_len]
theorem datK_len (l : Grp) (hl : ∀ j, j < l.length -> (dat l j).length = 128) : ∀ k, k <= l.length -> (datK l k).length = k * 128
  | 0, _ => rfl
  | k + 1, hk => by rw [datK, List.length_append, datK_len l hl k (by omega), hl k (by omega)]; omega
theorem bodyK_len (l : Grp) (hl : ∀ j, j < l.length -> (dat l j).length = 128) (k : Nat) (hk : k <= l.length) : (bodyK l k).length = (rowsN l.length + k) * 128 := by
  rw [bodyK, List.length_append, numK_len, datK_len l hl k hk]; omega
theorem bodyK_succ (l : Grp) (k : Nat) (hk : k < l.length) : bodyK l (k + 1) = putL (bodyK l k) k (nob l k) ++ dat l k := by
  rw [bodyK, bodyK, numK, datK, putL, putL, putK_append _ _ _ _ (by rw [numK_len]; exact rowsN_room _ _ hk) 8 (by omega), List.append_assoc]
theorem numK_range (l : Grp) : ∀ k, ∀ z ∈ numK l k, 0 <= z /\ z <= 255
  | 0 => fun z hz => by obtain ⟨_, rfl⟩ := List.mem_replicate.1 hz; omega
  | k + 1 => putK_range _ _ _ (numK_range l k) 8
theorem datK_range (l : Grp) (hr : ∀ j, j < l.length -> ∀ z ∈ dat l j, 0 <= z /\ z <= 255) : ∀ k, k <= l.length -> ∀ z ∈ datK l k, 0 <= z /\ z <= 255
  | 0, _ => fun z hz => by cases hz
  | k + 1, hk => fun z hz => by
    rcases List.mem_append.1 hz with h | h
    · exact datK_range l hr k (by omega) z h
    · exact hr k (by omega) z h
theorem bodyK_range (l : Grp) (hr : ∀ j, j < l.length -> ∀ z ∈ dat l j, 0 <= z /\ z <= 255) (k : Nat) (hk : k <= l.length) : ∀ z ∈ bodyK l k, 0 <= z /\ z <= 255 := fun z hz => by
  rcases List.mem_append.1 hz with h | h
  · exact numK_range l k z h
  · exact datK_range l hr k hk z h
end Go.Proofs.YtpofmiecjkghgaaGreatDoor
namespace Go.Proofs.YtpofmiecjkghgaaGreatDoor
open Go.RowKit Go.Extern.Stop Go.Stop Go.Extern
set_option maxRecDepth 100000
def fnvStep (n c : Int) : Int := IntKind.u64.wrap (bits .xor .u64 n c * 1099511628211)
def fnv (n : Int) (zs : List Int) : Int := zs.foldl fnvStep n
abbrev fnv0 : Int := 14695981039346656037
abbrev zeroB : List Int := List.replicate 128 0
theorem u64_range (x : Int) : 0 <= IntKind.u64.wrap x /\ IntKind.u64.wrap x < 18446744073709551616 := by
  simp only [IntKind.wrap, IntKind.bits, IntKind.signed]
  simp
  omega
theorem fnv_range (n : Int) (h : 0 <= n /\ n < 18446744073709551616) (zs : List Int) : 0 <= fnv n zs /\ fnv n zs < 18446744073709551616 := by
  induction zs generalizing n with
  | nil => exact h
  | cons z zs ih => exact ih _ (u64_range _)
theorem fnv_take_succ (n : Int) (zs : List Int) (k : Nat) (h : k < zs.length) : fnv n (zs.take (k + 1)) = fnvStep (fnv n (zs.take k)) (zs.getD k 0) := by
  unfold fnv
  rw [List.take_succ_eq_append_getElem h, List.foldl_append]
  simp [List.getD, h]
theorem bytes_getD {zs : List Int} (hr : ∀ z ∈ zs, 0 <= z /\ z <= 255) : ∀ k, 0 <= zs.getD k 0 /\ zs.getD k 0 <= 255 := by
  intro k
  by_cases hk : k < zs.length
  · have : zs.getD k 0 = zs[k] := by simp [List.getD, hk]
    rw [this]; exact hr _ (List.getElem_mem hk)
  · have : zs.getD k 0 = 0 := by simp [List.getD, hk]
    rw [this]; omega
theorem add_calls (n : Int) (zs : List Int) (v : Value) (w : World) (h : BytesAt w v zs) :
    Calls Tryz.prog 326 #[.int .u64 n, v] w fun e w' => e = .returned (.int .u64 (fnv n zs)) /\ w' = w := by
  obtain ⟨a, cap, rfl, hr, hm, _, hc⟩ := h
  have hm' : zs.length <= 9223372036854775807 := by unfold maxLen at hm; omega
  clear hm
  have hr' := hidden (bytes_getD hr)
  clear hr
  go_enter Tryz.func326, Tryz.ntmps326
  go_wp2
  go_loop [0, 9] (fun t i => ∃ k : Nat, k <= zs.length /\ i = .int .i64 k /\ t = .int .u64 (fnv n (zs.take k))) (fun _ i => zs.length - (intOf i).toNat)
  case atStart => exact ⟨0, Nat.zero_le _, rfl, rfl⟩
  case round =>
    obtain ⟨k, hk, rfl, rfl⟩ := hrel
    by_cases hlt : k < zs.length
    · obtain ⟨b, off, rfl, hb, hcells⟩ := hc (by intro h; rw [h] at hlt; simp at hlt)
      have hcell := hcells k hlt
      have hz := hr'.out k
      have hst := hidden (fnv_take_succ n zs k hlt)
      clear hc hcells
      generalize zs.getD k 0 = z at hcell hz hst
      go_wp2
      go_round
      case rel =>
        refine ⟨k + 1, hlt, by go_num, ?_⟩
        rw [hst.out]
        rfl
      case measure => simp [intOf]; omega
    · go_wp2
      go_ret
      have : k = zs.length := by omega
      subst this
      simp
def PartsAt (w : World) (v : Value) (zss : List (List Int)) : Prop :=
  ∃ a cap, v = .slice a zss.length cap /\ zss.length <= maxLen /\
    (zss ≠ [] -> ∃ b off, a = some ⟨b, off, none⟩ /\ b < w.heap.size /\ ∀ k, k < zss.length -> ∃ x, w.cell? ⟨b, off + k, none⟩ = some x /\ BytesAt w x (zss.getD k []))
theorem fnv_flat_succ (n : Int) (zss : List (List Int)) (k : Nat) (h : k < zss.length) : fnv n (zss.take (k + 1)).flatten = fnv (fnv n (zss.take k).flatten) (zss.getD k []) := by
  unfold fnv
  rw [List.take_succ_eq_append_getElem h, List.flatten_append, List.foldl_append]
  simp [List.getD, h]
theorem parts_calls (zss : List (List Int)) (v : Value) (w : World) (h : PartsAt w v zss) :
    Calls Tryz.prog 319 #[v] w fun e w' => e = .returned (.int .u64 (fnv fnv0 zss.flatten)) /\ w' = w := by
  obtain ⟨a, cap, rfl, hm, hc⟩ := h
  have hm' : zss.length <= 9223372036854775807 := by unfold maxLen at hm; omega
  clear hm
  go_enter Tryz.func319, Tryz.ntmps319
  go_wp2
  go_loop [3, 8] (fun t i => ∃ k : Nat, k <= zss.length /\ i = .int .i64 k /\ t = .int .u64 (fnv fnv0 (zss.take k).flatten)) (fun _ i => zss.length - (intOf i).toNat)
  case atStart => exact ⟨0, Nat.zero_le _, rfl, rfl⟩
  case round =>
    obtain ⟨k, hk, rfl, rfl⟩ := hrel
    by_cases hlt : k < zss.length
    · obtain ⟨b, off, rfl, hb, hcells⟩ := hc (by intro h; rw [h] at hlt; simp at hlt)
      obtain ⟨x, hcell, hx⟩ := hcells k hlt
      have hst := hidden (fnv_flat_succ fnv0 zss k hlt)
      replace hx := hidden hx
      clear hc hcells
      generalize zss.getD k [] = z at hx hst
      go_wp2_with fail
      refine (add_calls _ z x w hx.out).mono ?_
      rintro ev w' ⟨rfl, rfl⟩
      go_wp2
      go_round
      case rel =>
        refine ⟨k + 1, hlt, by go_num, ?_⟩
        rw [hst.out]
      case measure => simp [intOf]; omega
    · go_wp2
      go_ret
      have : k = zss.length := by omega
      subst this
      simp
end Go.Proofs.YtpofmiecjkghgaaGreatDoor
namespace Go.Proofs.YtpofmiecjkghgaaGreatDoor
open Go.RowKit
set_option maxRecDepth 100000
def laid (ws : Grp) (mem : Nat -> Int) : Nat -> Int := ws.foldl (fun m p => memW p.1 p.2 m) mem
theorem laid_one (i : Nat) (zs : List Int) (m : Nat -> Int) : laid [(i, zs)] m = memW i zs m := rfl
theorem laid_append (a b : Grp) (mem : Nat -> Int) : laid (a ++ b) mem = laid b (laid a mem) := by simp [laid]
theorem laid_other (ws : Grp) (no : Nat) : ∀ mem, (∀ p ∈ ws, p.1 ≠ no) -> blockL (laid ws mem) no = blockL mem no := by
  induction ws with
  | nil => intro mem _; rfl
  | cons p ws ih =>
    intro mem h
    have := ih (memW p.1 p.2 mem) (fun q hq => h q (List.mem_cons_of_mem _ hq))
    rw [laid, List.foldl_cons]
    exact this.trans (memW_other _ _ (h p List.mem_cons_self) _ _)
theorem laid_same (ws : Grp) (p : Nat × List Int) : ∀ mem, (ws.map (·.1)).Nodup -> p ∈ ws -> p.2.length = 128 -> blockL (laid ws mem) p.1 = p.2 := by
  induction ws with
  | nil => intro _ _ h; cases h
  | cons q ws ih =>
    intro mem hn hm hp
    rw [List.map_cons, List.nodup_cons] at hn
    rw [laid, List.foldl_cons]
    rcases List.mem_cons.1 hm with rfl | h
    · have := laid_other ws p.1 (memW p.1 p.2 mem) (fun r hr e => hn.1 (by rw [<- e]; exact List.mem_map_of_mem hr))
      exact this.trans (memW_same _ _ hp _)
    · exact ih _ hn.2 h hp
def digestL (h body : List Int) : Int := fnv fnv0 (h.take 8 ++ body)
def headL (n : Nat) (body : List Int) : List Int := putL (putL zeroB 0 n) 1 (digestL (putL zeroB 0 n) body)
theorem zeroB_len : zeroB.length = 128 := by simp
theorem headL_len (n : Nat) (body : List Int) : (headL n body).length = 128 := by rw [headL, putK_len, putK_len, zeroB_len]
theorem zero_count (i : Nat) : getL zeroB i = 0 := by
  have h : ∀ j, zeroB.getD j 0 = 0 := fun j => by simp only [List.getD, List.getElem?_replicate]; split <;> rfl
  have : ∀ K, getK zeroB i K = 0 := fun K => by
    induction K with
    | zero => rfl
    | succ K ih => rw [getK, ih, h]; simp
  exact this 8
structure Good (N at_ own : Nat) (l : Grp) : Prop where
  few : l.length <= 200
  no : ∀ k, k < l.length -> nob l k < N
  len : ∀ k, k < l.length -> (dat l k).length = 128
  range : ∀ k, k < l.length -> ∀ z ∈ dat l k, 0 <= z /\ z <= 255
  out : ∀ k, k < l.length -> nob l k < at_ \/ at_ + own <= nob l k
  once : ∀ k j, k < l.length -> j < k -> nob l j ≠ nob l k
theorem Good.mem {N at_ own : Nat} {l : Grp} (h : Good N at_ own l) (p : Nat × List Int) (hp : p ∈ l) : p.1 < N /\ p.2.length = 128 /\ (p.1 < at_ \/ at_ + own <= p.1) := by
  obtain ⟨k, hk, rfl⟩ := List.getElem_of_mem hp
  have e : l[k] = l.getD k (0, []) := by simp [List.getD, hk]
  rw [e]
  exact ⟨h.no k hk, h.len k hk, h.out k hk⟩
theorem Good.nodup {N at_ own : Nat} {l : Grp} (h : Good N at_ own l) : (l.map (·.1)).Nodup := by
  rw [List.nodup_iff_pairwise_ne, List.pairwise_iff_getElem]
  intro i j hi hj hij
  simp only [List.length_map] at hi hj
  have e1 : l[i] = l.getD i (0, []) := by simp [List.getD, hi]
  have e2 : l[j] = l.getD j (0, []) := by simp [List.getD, hj]
  simp only [List.getElem_map, e1, e2]
  exact h.once j i hj hij
abbrev size (l : Grp) : Nat := rowsN l.length + l.length
abbrev headG (l : Grp) : List Int := headL l.length (bodyL l)
def bodyWs (at_ : Nat) (l : Grp) (m : Nat) : Grp := (List.range m).map fun i => (at_ + 1 + i, chunk (bodyL l) i)
def noteWs (at_ : Nat) (l : Grp) : Grp := bodyWs at_ l (size l) ++ [(at_, headG l)]
def settleWs (at_ : Nat) (l : Grp) : Grp := l ++ [(at_, zeroB)]
abbrev Idle (at_ : Nat) (mem : Nat -> Int) : Prop := blockL mem at_ = zeroB
structure Noted (at_ : Nat) (l : Grp) (mem : Nat -> Int) : Prop where
  head : blockL mem at_ = headG l
  body : ∀ i, i < size l -> blockL mem (at_ + 1 + i) = chunk (bodyL l) i
theorem bodyWs_mem {at_ m : Nat} {l : Grp} {p : Nat × List Int} (h : p ∈ bodyWs at_ l m) : ∃ i, i < m /\ p = (at_ + 1 + i, chunk (bodyL l) i) := by
  obtain ⟨i, hi, rfl⟩ := List.mem_map.1 h
  exact ⟨i, List.mem_range.1 hi, rfl⟩
theorem bodyWs_nodup (at_ m : Nat) (l : Grp) : ((bodyWs at_ l m).map (·.1)).Nodup := by
  rw [bodyWs, List.map_map, List.nodup_iff_pairwise_ne, List.pairwise_map]
  exact List.Pairwise.imp (fun {a b} h => by simp only [Function.comp]; omega) List.pairwise_lt_range
theorem settle_all {N at_ own : Nat} {l : Grp} {v : Nat -> List Int} {mem : Nat -> Int} (hg : Good N at_ own l) (ho : 1 <= own) (h : ∀ no, (no < at_ \/ at_ + own <= no) -> (∀ p ∈ l, p.1 ≠ no) -> blockL mem no = v no) :
    Idle at_ (laid (settleWs at_ l) mem) /\ (∀ no, (no < at_ \/ at_ + own <= no) -> (∀ p ∈ l, p.1 ≠ no) -> blockL (laid (settleWs at_ l) mem) no = v no) /\ ∀ p ∈ l, blockL (laid (settleWs at_ l) mem) p.1 = p.2 := by
  rw [settleWs, laid_append]
  have e : ∀ m : Nat -> Int, laid [(at_, zeroB)] m = memW at_ zeroB m := fun _ => laid_one _ _ _
  rw [e]
  refine ⟨memW_same _ _ zeroB_len _, fun no h1 h2 => ?_, fun p hp => ?_⟩
  · rw [memW_other _ _ (by omega), laid_other _ _ _ h2]; exact h no h1 h2
  · have hm := hg.mem p hp
    rw [memW_other _ _ (by omega)]
    exact laid_same l p mem hg.nodup hp hm.2.1
theorem chunk_body_len {N at_ own : Nat} {l : Grp} (hg : Good N at_ own l) (i : Nat) (hi : i < size l) : (chunk (bodyL l) i).length = 128 :=
  chunk_len _ _ (by have h2 := bodyK_len l hg.len l.length (Nat.le_refl _); have : i < rowsN l.length + l.length := hi; rw [show (bodyL l).length = _ from h2]; generalize rowsN l.length + l.length = q at this; omega)
theorem note_all {N at_ own : Nat} {l : Grp} {v : Nat -> List Int} {mem : Nat -> Int} (hg : Good N at_ own l) (ho : 1 + size l <= own) (h : ∀ no, (no < at_ \/ at_ + own <= no) -> blockL mem no = v no) :
    Noted at_ l (laid (noteWs at_ l) mem) /\ ∀ no, (no < at_ \/ at_ + own <= no) -> blockL (laid (noteWs at_ l) mem) no = v no := by
  rw [noteWs, laid_append]
  have e : ∀ m : Nat -> Int, laid [(at_, headG l)] m = memW at_ (headG l) m := fun _ => laid_one _ _ _
  rw [e]
  refine ⟨⟨memW_same _ _ (headL_len _ _) _, fun i hi => ?_⟩, fun no h1 => ?_⟩
  · rw [memW_other _ _ (by omega)]
    exact laid_same _ (at_ + 1 + i, chunk (bodyL l) i) mem (bodyWs_nodup _ _ _) (List.mem_map.2 ⟨i, List.mem_range.2 hi, rfl⟩) (chunk_body_len hg i hi)
  · rw [memW_other _ _ (by omega), laid_other _ _ _ (fun p hp => by obtain ⟨i, hi, rfl⟩ := bodyWs_mem hp; show at_ + 1 + i ≠ no; omega)]
    exact h no h1
end Go.Proofs.YtpofmiecjkghgaaGreatDoor
