/- The journal's digest and head. -/
import Derived.Test.YtopegpjkkicjhaaGreatDoorJo2
namespace Go.Proofs.YtopegpjkkicjhaaGreatDoor
open Go.RowKit Go.Extern.Stop Go.Stop Go.Extern
set_option maxRecDepth 100000

theorem make_bytes (N : Nat) (hN : N ≤ 1000000) (w : World) : (Instr.makeSlice 34 (.int .i64 N) (.int .i64 N)).run Tryz.prog w = .ok (.slice (some ⟨w.heap.size, 0, none⟩) N N) (w.alloc (.cells (Array.replicate N (.int .u8 0)) 5)) := by
  obtain ⟨i0, hi, hz0, hz1, hz2⟩ := info_parts3 Tryz.infoByte
  have h := run_make (P := Tryz.prog) (w := w) 34 5 i0 (.int .u8 0) Tryz.underlying34 hi hz0 .i64 .i64 N N (by omega) (by omega) (by rw [hz2]; omega) (by omega)
  rw [hz1, made_bytes] at h
  exact h
theorem ownB_zero (w : World) (base : Nat) (hb : base ≤ w.heap.size) (N : Nat) (hN : N ≤ 1000000) : OwnB base (w.alloc (.cells (Array.replicate N (.int .u8 0)) 5)) w.heap.size N N (List.replicate N 0) := by
  have h := World.ownsRow_lit (base := base) (e := 5) (size := 1) w (Array.replicate N (.int .u8 0)) N hb (by unfold maxLen; omega) (by simp)
  refine ⟨?_, by simp, fun z hz => by obtain ⟨_, rfl⟩ := List.mem_replicate.1 hz; omega⟩
  simpa using h
theorem digest_calls (b off m cap : Nat) (hs body : List Int) (vb : Value) (w : World) (h : BytesAt w (.slice (some ⟨b, off, none⟩) m cap) hs) (hl : hs.length = m) (h8 : 8 ≤ m) (hmc : m ≤ cap) (hcm : m ≤ 1000000) (hB : BytesAt w vb body) :
    Calls Tryz.prog 153 #[.slice (some ⟨b, off, none⟩) m cap, vb] w fun e w' => e = .returned (.int .u64 (digestL hs body)) ∧ Below w.heap.size w w' := by
  have h1 : BytesAt w (.slice (some ⟨b, off, none⟩) 8 cap) (hs.take 8) := by
    obtain ⟨a, c, hv, hr, hm, -, hc⟩ := h
    obtain ⟨b', off', ha, hlt, hcell⟩ := hc (by intro e; rw [e] at hl; simp at hl; omega)
    have he := (Value.slice.inj hv).1
    subst ha
    simp only [Option.some.injEq, Addr.mk.injEq] at he
    obtain ⟨rfl, rfl, -⟩ := he
    have h8' : (hs.take 8).length = 8 := by simp; omega
    refine ⟨_, cap, by rw [h8'], fun z hz => hr z (List.mem_of_mem_take hz), by rw [h8']; decide, fun e => (by cases e), fun _ => ⟨b, off, rfl, hlt, fun k hk => ?_⟩⟩
    rw [h8'] at hk
    rw [hcell k (by omega)]
    simp [List.getD, hk]
  have hP : ∀ cs : Array Value, ∀ t, cs = #[.slice (some ⟨b, off, none⟩) 8 cap, vb] → PartsAt (w.alloc (.cells cs t)) (.slice (some ⟨w.heap.size, 0, none⟩) 2 2) [hs.take 8, body] := by
    rintro cs t rfl
    have hb := (Below.refl w.heap.size w).alloc (Nat.le_refl _) (.cells #[.slice (some ⟨b, off, none⟩) 8 cap, vb] t)
    refine ⟨_, 2, rfl, by simp [maxLen], fun _ => ⟨w.heap.size, 0, rfl, by simp, fun k hk => ?_⟩⟩
    match k, hk with
    | 0, _ => exact ⟨_, by simp, h1.below hb⟩
    | 1, _ => exact ⟨_, by simp, hB.below hb⟩
  obtain ⟨a2, c2, rfl, -⟩ := hB
  clear h h1
  replace hP := hidden hP
  go_enter Tryz.func153, Tryz.ntmps153
  go_wp2_with fail
  refine (parts_calls _ _ _ (hP.out _ _ rfl)).mono ?_
  rintro ev w1 ⟨rfl, rfl⟩
  go_wp2
  go_ret
  exact ⟨rfl, (Below.refl _ _).alloc (Nat.le_refl _) _⟩
set_option maxHeartbeats 1000000 in
theorem head_calls (n : Nat) (hn : n ≤ 1000000) (body : List Int) (vb : Value) (w : World) (hB : BytesAt w vb body) :
    Calls Tryz.prog 134 #[.int .i64 n, vb] w fun e w' => ∃ b, e = .returned (.slice (some ⟨b, 0, none⟩) 128 128) ∧ OwnB w.heap.size w' b 128 128 (headL n body) ∧ Below w.heap.size w w' := by
  have hmk := make_block w
  have hO := hidden (ownB_zero w w.heap.size (Nat.le_refl _) 128 (by omega))
  have hB0 : Hid (Below w.heap.size w (w.alloc (.cells (Array.replicate 128 (.int .u8 0)) 5))) := hidden ((Below.refl _ _).alloc (Nat.le_refl _) _)
  obtain ⟨a2, c2, rfl, hrest⟩ := hB
  have hB1 : Hid (BytesAt w (.slice a2 body.length c2) body) := hidden ⟨a2, c2, rfl, hrest⟩
  clear hrest
  go_enter Tryz.func134, Tryz.ntmps134
  go_wp2_with fail
  refine (put_calls w.heap.size w.heap.size 128 128 _ 0 (n : Int) _ hO.out (by omega) (by omega) (by omega) (by omega)).mono ?_
  rintro ev w2 ⟨rfl, hO2, hA2⟩
  have hB2 : Below w.heap.size w w2 := hB0.out.trans (hA2.below (by simp) hB0.out.size)
  replace hO2 := hidden hO2
  replace hB2 := hidden hB2
  clear hA2 hO hmk
  go_wp2_with fail
  refine (digest_calls w.heap.size 0 128 128 _ body _ w2 hO2.out.bytes (by rw [putK_len]; simp) (by omega) (by omega) (by omega) (hB1.out.below hB2.out)).mono ?_
  rintro ev w3 ⟨rfl, hB3⟩
  have hO3 := hidden (hO2.out.below hB3)
  have hB3' : Hid (Below w.heap.size w w3) := hidden (hB2.out.trans (hB3.mono hB2.out.size))
  have hD := fnv_range fnv0 (by decide) ((putL zeroB 0 (n : Int)).take 8 ++ body)
  clear hB3
  go_wp2_with fail
  refine (put_calls w.heap.size w.heap.size 128 128 _ 1 _ _ hO3.out (by omega) (by omega) hD.1 hD.2).mono ?_
  rintro ev w4 ⟨rfl, hO4, hA4⟩
  have hB4 : Below w.heap.size w w4 := hB3'.out.trans (hA4.below (by simp) hB3'.out.size)
  have hE := hidden (And.intro hO4 hB4)
  clear hO4 hB4 hA4
  go_wp2
  go_ret
  exact ⟨_, rfl, hE.out⟩
end Go.Proofs.YtopegpjkkicjhaaGreatDoor
