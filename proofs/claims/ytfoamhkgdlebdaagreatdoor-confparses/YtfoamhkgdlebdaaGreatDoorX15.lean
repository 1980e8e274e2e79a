/- The document's own: which entries may be. -/
import Derived.Test.YtfoamhkgdlebdaaGreatDoorX14
namespace Go.Proofs.YtfoamhkgdlebdaaGreatDoor
open Go.RowKit Go.Extern.Stop Go.Stop Go.Extern
set_option maxRecDepth 100000

theorem ix_none : ∀ {x : List UInt8} {c : UInt8}, c ∉ x → Lib.indexByte x c = -1
  | [], _, _ => by simp [Lib.indexByte]
  | b :: l, c, h => by
    have e : ¬ b = c := fun e => h (by simp [e])
    rw [ix_cons e, ix_none (x := l) (fun hm => h (by simp [hm])), if_pos rfl]
theorem inR_split (c : UInt8) : inR 33 126 c = (inR 32 126 c && !(c == 32)) := by
  have h : (c == 32) = decide (c.toNat = 32) := by
    by_cases e : c = 32
    · subst e; rfl
    · have : c.toNat ≠ 32 := fun e' => e (UInt8.toNat_inj.1 e')
      simp [e, this]
  rw [h]
  simp only [inR]
  by_cases h1 : 33 ≤ c.toNat <;> by_cases h2 : c.toNat ≤ 126 <;> by_cases h3 : c.toNat = 32 <;> simp [h1, h2, h3] <;> omega
theorem ver_ref (x : List UInt8) : verB x = (decide (1 ≤ x.length) && decide (x.length ≤ 40) && x.all (inR 33 126)) := by
  have h1 : x.all (inR 33 126) = (plainB x && !decide (0 ≤ Lib.indexByte x 32)) := by
    by_cases hm : (32 : UInt8) ∈ x
    · have := ix_mem hm
      rw [decide_eq_true this]
      have : x.all (inR 33 126) = false := List.all_eq_false.2 ⟨32, hm, by decide⟩
      rw [this]; simp
    · have := ix_none hm
      rw [this, plainB]
      simp
      rw [Bool.eq_iff_iff, List.all_eq_true, List.all_eq_true]
      constructor
      · intro h c hc; have := h c hc; rw [inR_split] at this; simp at this; exact this.1
      · intro h c hc
        rw [inR_split, h c hc]
        have : c ≠ 32 := fun e => hm (e ▸ hc)
        simpa using this
  rw [h1, verB]
  cases x <;> simp [Bool.and_assoc]
set_option maxHeartbeats 2000000 in
theorem within_calls (s : ByteArray) (lo hi : Nat) (hsz : s.size ≤ 1000) (w : World) :
    Calls Tryz.prog 52 #[.string s, .int .u8 (lo : Nat), .int .u8 (hi : Nat)] w fun e w' => e = .returned (.bool (s.data.toList.all (inR lo hi))) ∧ w' = w := by
  obtain ⟨r, hr⟩ : ∃ r, s.data.toList.all (inR lo hi) = r := ⟨_, rfl⟩
  rw [hr]
  replace hr := hidden hr
  go_enter Tryz.func52, Tryz.ntmps52
  go_wp2
  go_loopg [7] s.size (fun g i wr => ∃ k : Nat, k ≤ s.size ∧ g = s.size - k ∧ i = .int .i64 (k : Int) ∧ wr = w ∧ (s.data.toList.take k).all (inR lo hi) = true)
  case atStart => exact ⟨0, Nat.zero_le _, rfl, rfl, rfl, rfl⟩
  case round =>
    obtain ⟨k, hk, hg, rfl, rfl, hall⟩ := hrel
    replace hg := hidden hg
    by_cases hlt : k < s.size
    · have hlt' : (k : Int) < (s.size : Int) := by omega
      have hs := hidden (allp_take (inR lo hi) s k hlt)
      have hx : ∀ w : World, (Instr.index 9 (.string s) (.int .i64 (k : Int))).run Tryz.prog w = .ok (.int .u8 ((s[k].toNat : Nat) : Int)) w := by
        intro w
        simp [go_sem, hlt]
      have hget : s.data.toList[k]? = some (s[k]'hlt) := by
        have h' : k < s.data.toList.length := by simpa using hlt
        rw [List.getElem?_eq_getElem h']; rfl
      have hbad : Hid (inR lo hi (s[k]'hlt) = false → r = false) := hidden (fun h => hr.out.symm.trans (allp_at hget h))
      clear hget
      generalize s[k]'hlt = c at hs hx hbad
      replace hall := hidden hall
      by_cases h1 : ((c.toNat : Nat) : Int) < (lo : Nat)
      · have hb := hidden (hbad.out (by simp [inR]; intro; omega))
        clear hbad hs
        go_wp2
        go_ret
        exact ⟨by rw [hb.out]; rfl, rfl⟩
      · by_cases h2 : ((hi : Nat) : Int) < ((c.toNat : Nat) : Int)
        · have hb := hidden (hbad.out (by simp [inR]; intro; omega))
          clear hbad hs
          go_wp2
          go_ret
          exact ⟨by rw [hb.out]; rfl, rfl⟩
        · have hin : inR lo hi c = true := by simp [inR]; omega
          have hb := hidden (show (s.data.toList.take (k + 1)).all (inR lo hi) = true by rw [hs.out, hall.out, hin]; rfl)
          clear hbad hs hin
          go_wp2
          go_roundg (s.size - (k + 1))
          case measure => rw [hg.out]; omega
          case rel => exact ⟨k + 1, hlt, rfl, by simp, rfl, hb.out⟩
    · obtain rfl : k = s.size := by omega
      have he : r = true := by rw [List.take_of_length_le (by simp)] at hall; exact hr.out.symm.trans hall
      replace he := hidden he
      clear hall
      go_wp2
      go_ret
      exact ⟨by rw [he.out]; rfl, rfl⟩
theorem refver_calls (s : ByteArray) (w : World) : Calls Tryz.prog 35 #[.string s] w fun e w' => e = .returned (.bool (verB s.data.toList)) ∧ w' = w := by
  rw [ver_ref]
  have kW : s.size ≤ 1000 → Hid _ := fun h => hidden (within_calls s 33 126 h w)
  have hl : s.data.toList.length = s.size := by simp
  rw [hl]
  generalize s.data.toList.all (inR 33 126) = p at kW ⊢
  by_cases h1 : 1 ≤ s.size
  · have h1' : (1 : Int) ≤ (s.size : Int) := by omega
    by_cases h2 : s.size ≤ 40
    · have h2' : (s.size : Int) ≤ 40 := by omega
      replace kW := kW (by omega)
      rw [decide_eq_true h1, decide_eq_true h2]
      clear h1 h2 hl
      go_enter Tryz.func35, Tryz.ntmps35
      go_wp2_with (go_at_call 52; refine kW.out.mono ?_; rintro e w' ⟨rfl, rfl⟩)
      go_ret
      exact ⟨by simp, rfl⟩
    · have h2' : ¬ (s.size : Int) ≤ 40 := by omega
      rw [decide_eq_true h1, decide_eq_false h2]
      clear h1 h2 hl
      go_enter Tryz.func35, Tryz.ntmps35
      go_wp2
      go_ret
      exact ⟨rfl, rfl⟩
  · have h1' : ¬ (1 : Int) ≤ (s.size : Int) := by omega
    rw [decide_eq_false h1]
    clear h1 hl
    go_enter Tryz.func35, Tryz.ntmps35
    go_wp2
    go_ret
    exact ⟨rfl, rfl⟩
theorem refblob_calls (b : Bl) (w : World) : Calls Tryz.prog 53 #[blV b] w fun e w' => e = .returned (.bool (blobB b.1 b.2)) ∧ Below w.heap.size w w' := by
  obtain ⟨n, s⟩ := b
  have hB : Below w.heap.size w (w.alloc (.cells #[.string (mkB n), .string (mkB s)] 26)) := (Below.refl _ _).alloc (Nat.le_refl _) _
  replace hB := hidden hB
  have kU := fun w => hidden (refunhex_calls (mkB s) w)
  have kO := fun w => hidden (nameOk_calls (mkB n) w)
  rw [mk_list] at kO
  simp only [blobB]
  unfold unhexV at kU
  generalize unhexS (mkB s) = r at kU ⊢
  generalize okB n = p at kO ⊢
  unfold blV
  cases r with
  | none =>
    go_enter Tryz.func53, Tryz.ntmps53
    go_wp2_with (go_at_call 68; refine (kU _).out.mono ?_; rintro e w' ⟨rfl, rfl⟩)
    go_ret
    exact ⟨rfl, hB.out⟩
  | some r =>
    go_enter Tryz.func53, Tryz.ntmps53
    go_wp2_with first
      | (go_at_call 68; refine (kU _).out.mono ?_; rintro e w' ⟨rfl, rfl⟩)
      | (go_at_call 69; refine (kO _).out.mono ?_; rintro e w' ⟨rfl, rfl⟩)
    go_ret
    exact ⟨by simp, hB.out⟩
end Go.Proofs.YtfoamhkgdlebdaaGreatDoor
