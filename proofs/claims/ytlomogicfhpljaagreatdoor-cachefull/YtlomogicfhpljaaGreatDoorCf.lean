/- CacheFlushes, walked. -/
import Derived.Test.YtlomogicfhpljaaGreatDoorCb1
namespace Go.Proofs.YtlomogicfhpljaaGreatDoor
open Go.RowKit Go.Extern.Stop Go.Stop Go.Extern Go.Maps
set_option maxRecDepth 100000

/-- What holds ahead of block k. -/
structure FlSt (w0 : World) (d g jb cb mb : Nat) (k : Nat) (cnt : Nat) (w : World) : Prop where
  ex : ∃ M, CSt w0 d g 60 jb cb mb 20 8 12 (fun _ => 0) 0 (-1) M w ∧ M.length = cnt ∧ ∀ p ∈ M, 0 ≤ p.1 ∧ p.1 < k
  few : cnt ≤ 8
theorem not_yet {M : Chg} {k : Nat} (h : ∀ p ∈ M, 0 ≤ p.1 ∧ p.1 < (k : Int)) : hasM k M = false := by
  cases hh : hasM k M with
  | false => rfl
  | true =>
    obtain ⟨p, hp, e⟩ := hasM_iff.1 hh
    have := h p hp
    omega
theorem FlSt.more {w0 : World} {d g jb cb mb k cnt : Nat} {w w' : World} (h : FlSt w0 d g jb cb mb k cnt w) (hb : Below w.heap.size w w') : FlSt w0 d g jb cb mb k cnt w' := by
  obtain ⟨M, h1, h2, h3⟩ := h.ex
  exact ⟨⟨M, h1.more hb, h2, h3⟩, h.few⟩
theorem FlSt.next {w0 : World} {d g jb cb mb k cnt : Nat} {w : World} (h : FlSt w0 d g jb cb mb k cnt w) : FlSt w0 d g jb cb mb (k + 1) cnt w := by
  obtain ⟨M, h1, h2, h3⟩ := h.ex
  exact ⟨⟨M, h1, h2, fun p hp => by have := h3 p hp; omega⟩, h.few⟩
theorem FlSt.read {w0 : World} {d g jb cb mb k cnt : Nat} {w : World} (h : FlSt w0 d g jb cb mb k cnt w) (hk : k < 12) :
    Calls Tryz.prog 8 #[ptr cb, .int .i64 k] w fun e w' => ∃ b, e = .returned (.tuple #[.slice (some ⟨b, 0, none⟩) 128 128, .nilIface]) ∧ FlSt w0 d g jb cb mb k cnt w' := by
  obtain ⟨M, h1, h2, h3⟩ := h.ex
  refine (read_calls h1 (by decide) k (by omega) (by omega)).mono ?_
  rintro e w' ⟨b, rfl, -, -, hB⟩
  exact ⟨b, rfl, h.more hB⟩
theorem FlSt.write {w0 : World} {d g jb cb mb k cnt : Nat} {w : World} (h : FlSt w0 d g jb cb mb k cnt w) (hk : k < 12) (hc : cnt < 8) (x : Int) (hx : 0 ≤ x ∧ x ≤ 255) (fz : Nat × Nat) :
    Calls Tryz.prog 9 #[ptr cb, .int .i64 k, .int .i64 2, .slice (some ⟨w.heap.size, 0, none⟩) 1 1] (w.alloc (.cells #[.int .u8 x] 5 fz)) fun e w' => e = .returned .nilIface ∧ FlSt w0 d g jb cb mb (k + 1) (cnt + 1) w' := by
  obtain ⟨M, h1, h2, h3⟩ := h.ex
  have hB : Below w.heap.size w (w.alloc (.cells #[.int .u8 x] 5 fz)) := (Below.refl _ _).alloc (Nat.le_refl _) _
  have hno := not_yet h3
  refine (cwrite_calls (h1.more hB) (by decide) k 2 (by omega) (by omega) _ [x] (lit_bytes w [x] (by simp; exact hx) (by simp) fz) (by simp) (by rw [hno]; simp; omega) (by omega)).mono ?_
  rintro e w' ⟨rfl, hC, -⟩
  refine ⟨rfl, ⟨_, hC, by rw [put_len_new hno, h2], fun p hp => ?_⟩, by omega⟩
  rcases mem_put.1 hp with rfl | ⟨hp, -⟩
  · exact ⟨by show (0 : Int) ≤ (k : Int); omega, by show (k : Int) < ((k + 1 : Nat) : Int); omega⟩
  · have := h3 p hp; omega
theorem FlSt.told {w0 : World} {d g jb cb mb k cnt : Nat} {w : World} (h : FlSt w0 d g jb cb mb k cnt w) :
    Calls Tryz.prog 10 #[ptr cb] w fun e w' => ∃ a cap, e = .returned (.slice a cnt cap) ∧ FlSt w0 d g jb cb mb k cnt w' := by
  obtain ⟨M, h1, h2, h3⟩ := h.ex
  have := h.few
  refine (changed_calls h1.cat h1.map (by omega)).mono ?_
  rintro e w' ⟨v, rfl, hT, hB⟩
  obtain ⟨a, cap, rfl⟩ := told_len hT
  exact ⟨a, cap, by rw [h2], h.more hB⟩
/-- Behind the Flush: nothing is changed. -/
theorem FlSt.flush {w0 : World} {d g jb cb mb cnt : Nat} {w : World} (h : FlSt w0 d g jb cb mb 12 cnt w) :
    Calls Tryz.prog 11 #[ptr cb] w fun e w' => ∃ mem wr, e = .returned .nilIface ∧ CSt w0 d g 60 jb cb mb 20 8 12 mem wr (-1) [] w' := by
  obtain ⟨M, h1, h2, h3⟩ := h.ex
  have := h.few
  by_cases h0 : M = []
  · subst h0
    refine (flush_none h1 ⟨by omega, by omega⟩ (need8 8 (by omega))).mono ?_
    rintro e w' ⟨rfl, hC, -⟩
    exact ⟨_, _, rfl, hC⟩
  · have hpos : 0 < M.length := List.length_pos_iff.2 h0
    refine (flush_calls h1 (by decide) (by decide) ⟨by omega, by omega⟩ (need8 8 (by omega)) (idle_zero 20) hpos (by omega) (fun p hp => by have := h3 p hp; omega)).mono ?_
    rintro e w' (⟨rfl, -, left', hC, -, hl⟩ | ⟨_, _, _, _, _, _, _, _, hne⟩)
    · rw [hl rfl] at hC
      exact ⟨_, _, rfl, hC⟩
    · exact absurd rfl hne
set_option maxHeartbeats 2000000 in
theorem cacheFlushes_calls (rd wrt : Int) (w : World) (hG : Ground w) (hGT : GT w) :
    Calls Tryz.prog 3 #[.int .i64 rd, .int .i64 wrt] w fun e w' => e = .returned (.bool true) ∧ Below w.heap.size w w' := by
  have hmd := hidden (made_calls 8 (by omega) (by omega) w hG)
  replace hGT := hidden hGT
  replace hG := hidden hG
  go_enter Tryz.func3, Tryz.ntmps3
  go_wp2_with fail
  refine (hmd.out).mono ?_
  rintro ev w1 ⟨jb, cb, mb, rfl, hC1⟩
  generalize hd : w.heap.size + 1 = d at hC1 ⊢
  replace hC1 := hidden hC1
  clear hmd
  go_wp2_with fail
  go_loopg [7, 8] 13 (fun gk c q wr => ∃ k cnt : Nat, k ≤ 12 ∧ gk = 13 - k ∧ q = .int .i64 k ∧ c = .int .i64 cnt ∧ Hid (FlSt w d w.heap.size jb cb mb k cnt wr))
  case atStart => exact ⟨0, 0, by omega, rfl, rfl, rfl, hidden ⟨⟨[], hC1.out, rfl, fun p hp => by cases hp⟩, by omega⟩⟩
  case round =>
    obtain ⟨k, cnt, hk, hgk, rfl, rfl, hI⟩ := hrel
    replace hgk := hidden hgk
    have hfew := hI.out.few
    clear hC1
    by_cases hlt : k < 12
    · generalize hr : (bits .and .i64 (rd / 2 ^ k) 1 == 1) = R
      go_wp2_with (first
        | (go_at_call 8; refine (hI.out.read hlt).mono ?_; rintro ev w2 ⟨b2, rfl, hI2⟩; clear hI; have hI := hidden hI2; clear hI2)
        | (go_at_call 9; refine (hI.out.write hlt (by omega) 9 (by omega) (0, 0)).mono ?_; rintro ev w2 ⟨rfl, hI3⟩; replace hI3 := hidden hI3))
      all_goals (go_roundg (13 - (k + 1)))
      all_goals first
        | (rw [hgk.out]; omega)
        | (exact ⟨k + 1, cnt + 1, by omega, rfl, by go_num, by go_num, hI3⟩)
        | (exact ⟨k + 1, cnt, by omega, rfl, by go_num, rfl, hidden hI.out.next⟩)
    · obtain rfl : k = 12 := by omega
      go_wp2_with fail
      refine (hI.out.told).mono ?_
      rintro ev w2 ⟨a2, cap2, rfl, hI2⟩
      replace hI2 := hidden hI2
      clear hI
      go_wp2_with fail
      refine (hI2.out.flush).mono ?_
      rintro ev w3 ⟨mem3, wr3, rfl, hC3⟩
      have hCh := hidden (changed_calls hC3.cat hC3.map (by simp))
      replace hC3 := hidden hC3
      clear hI2
      go_wp2_with fail
      refine (hCh.out).mono ?_
      rintro ev w4 ⟨v4, rfl, hT4, hB4⟩
      obtain ⟨a4, cap4, rfl⟩ := told_len hT4
      have hC4 := hidden (hC3.out.more hB4)
      clear hCh hT4 hB4 hC3
      simp only [List.length_nil]
      go_wp2_with fail
      refine (sys_writes hC4.out.sys).mono ?_
      rintro ev w5 ⟨rfl, rfl⟩
      go_wp2_with fail
      refine (flush_none hC4.out ⟨by omega, by omega⟩ (need8 8 (by omega))).mono ?_
      rintro ev w6 ⟨rfl, hC6, -⟩
      replace hC6 := hidden hC6
      clear hC4
      go_wp2_with fail
      refine (sys_writes hC6.out.sys).mono ?_
      rintro ev w7 ⟨rfl, rfl⟩
      go_wp2_with fail
      refine (cawake_calls _ hC6.out.sys.ground (hGT.out.below hC6.out.sys.below)).mono ?_
      rintro ev w8 ⟨rfl, hB8⟩
      have hE := hidden (hC6.out.sys.below.trans (hB8.mono hC6.out.sys.below.size))
      clear hB8 hC6
      go_wp2
      go_ret
      exact ⟨by simp, hE.out⟩
end Go.Proofs.YtlomogicfhpljaaGreatDoor
