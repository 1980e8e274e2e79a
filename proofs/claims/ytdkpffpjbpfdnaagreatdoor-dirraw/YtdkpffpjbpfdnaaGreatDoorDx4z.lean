/- What bytes that are records are. -/
import Derived.Test.YtdkpffpjbpfdnaaGreatDoorGDa
namespace Go.Proofs.YtdkpffpjbpfdnaaGreatDoor
open Go.RowKit Go.Extern.Stop Go.Stop Go.Extern
set_option maxRecDepth 100000

theorem bI_toU : ∀ (z : List Int), (∀ x ∈ z, 0 ≤ x ∧ x ≤ 255) → bI (toU z) = z
  | [], _ => rfl
  | x :: r, h => by
    have ih := bI_toU r (fun y hy => h y (by simp [hy]))
    have hx := h x (by simp)
    unfold bI toU at ih ⊢
    rw [List.map_cons, List.map_cons, ih]
    congr 1
    have : (UInt8.ofNat x.toNat).toNat = x.toNat := by
      rw [UInt8.toNat_ofNat']
      omega
    rw [this]
    omega
theorem idB_numB {zs : List Int} (h : ∀ z ∈ zs, 0 ≤ z ∧ z ≤ 255) (hl : zs.length = 4) : idB (numB zs).toNat = zs := by
  match zs, hl with
  | [a, b, c, d], _ =>
    have ha := h a (by simp); have hb := h b (by simp); have hc := h c (by simp); have hd := h d (by simp)
    simp only [numB, List.foldl_cons, List.foldl_nil, idB, List.cons.injEq, and_true]
    refine ⟨?_, ?_, ?_, ?_⟩ <;> omega
theorem all_zero : ∀ (z : List Int), z.all (fun x => x == 0) = true → z = List.replicate z.length 0
  | [], _ => rfl
  | x :: r, h => by
    simp only [List.all_cons, Bool.and_eq_true, beq_iff_eq] at h
    obtain ⟨rfl, h2⟩ := h
    rw [List.length_cons, List.replicate_succ, ← all_zero r h2]
theorem read_inv {b : List Int} {r : Rec} (hb : ∀ z ∈ b, 0 ≤ z ∧ z ≤ 255) (hl : b.length = 32) (h : readB b = some r) : recB r = b := by
  obtain ⟨x, t, rfl⟩ : ∃ x t, b = x :: t := by
    cases b with
    | nil => simp at hl
    | cons x t => exact ⟨x, t, rfl⟩
  have hx := hb x (by simp)
  have ht : t.length = 31 := by simpa using hl
  have htb : ∀ z ∈ t, 0 ≤ z ∧ z ≤ 255 := fun z hz => hb z (by simp [hz])
  unfold readB at h
  simp only [List.getD_cons_zero, List.drop_succ_cons, List.drop_zero] at h
  split at h
  · cases h
  · rename_i h1
    split at h
    · rename_i h2
      simp only [Bool.and_eq_true, Bool.not_eq_true', beq_eq_false_iff_ne] at h2
      cases h
      obtain ⟨n, rfl⟩ : ∃ n : Nat, x = (n : Int) := ⟨x.toNat, by omega⟩
      simp only [Int.toNat_natCast] at h1 h2 ⊢
      have hr := all_zero _ h2.1.2
      have hrl : (restB ((n : Int) :: t) n).length = 27 - n := by unfold restB; rw [Nat.add_comm 1, List.drop_succ_cons, List.length_take, List.length_drop]; omega
      rw [hrl] at hr
      unfold recB
      simp only [toU_len, List.length_take, ht]
      rw [bI_toU _ (fun z hz => htb z (List.mem_of_mem_take hz)), idB_numB (fun z hz => htb z (List.mem_of_mem_drop hz)) (by rw [List.length_drop]; omega), show min n 31 = n by omega, ← hr]
      unfold restB
      rw [Nat.add_comm 1, List.drop_succ_cons]
      congr 1
      have e1 : t.drop 27 = (t.drop n).drop (27 - n) := by rw [List.drop_drop]; congr 1; omega
      rw [e1, List.take_append_drop, List.take_append_drop]
    · cases h
theorem parseK_inv {b : List Int} (hb : ∀ z ∈ b, 0 ≤ z ∧ z ≤ 255) : ∀ k l, 32 * k ≤ b.length → parseK b k = some l → recsL l = b.take (32 * k)
  | 0, l, _, h => by cases h; simp [recsL]
  | k + 1, l, hk, h => by
    unfold parseK at h
    cases hp : parseK b k with
    | none => rw [hp] at h; cases h
    | some l0 =>
      rw [hp] at h
      have ih := parseK_inv hb k l0 (by omega) hp
      cases hr : readB ((b.drop (32 * k)).take 32) with
      | none => rw [hr] at h; cases h
      | some r =>
        rw [hr] at h
        simp only at h
        split at h
        · cases h
        · cases h
          have hi := read_inv (fun z hz => hb z (List.mem_of_mem_drop (List.mem_of_mem_take hz))) (by rw [List.length_take, List.length_drop]; omega) hr
          rw [recsL_append, ih]
          simp only [recsL, List.append_nil]
          rw [hi, show 32 * (k + 1) = 32 * k + 32 by omega, List.take_add]
theorem parse_inv {b : List Int} {l : List Rec} (hb : ∀ z ∈ b, 0 ≤ z ∧ z ≤ 255) (h : parseB b = some l) : recsL l = b := by
  unfold parseB at h
  split at h
  · rw [parseK_inv hb _ _ (by omega) h, List.take_of_length_le (by omega)]
  · cases h
end Go.Proofs.YtdkpffpjbpfdnaaGreatDoor
