/- What layer 4's statements call opened and is; the Opens behind a Commit. -/
import Derived.Test.YtbagncolhckhjaaDoorJq2
namespace Go.Proofs.YtbagncolhckhjaaDoor
open Go.RowKit Go.Extern.Stop Go.Stop Go.Extern
set_option maxRecDepth 100000

/-- Where a group l stands on the disk; v: what the blocks outside the Journal held ahead of it. -/
def Stands (at_ own : Nat) (l : Grp) (v : Nat → List Int) (mem : Nat → Int) : Prop :=
  (Idle at_ mem ∧ ∀ no, (no < at_ ∨ at_ + own ≤ no) → blockL mem no = v no) ∨
  (Noted at_ l mem ∧ ∀ no, (no < at_ ∨ at_ + own ≤ no) → (∀ p ∈ l, p.1 ≠ no) → blockL mem no = v no) ∨
  (Idle at_ mem ∧ (∀ no, (no < at_ ∨ at_ + own ≤ no) → (∀ p ∈ l, p.1 ≠ no) → blockL mem no = v no) ∧ ∀ p ∈ l, blockL mem p.1 = p.2)
theorem Stands.before {at_ own : Nat} {l : Grp} {v : Nat → List Int} {mem : Nat → Int} (hi : Idle at_ mem) (h : ∀ no, (no < at_ ∨ at_ + own ≤ no) → blockL mem no = v no) : Stands at_ own l v mem := Or.inl ⟨hi, h⟩
theorem Stands.under {at_ own : Nat} {l : Grp} {v : Nat → List Int} {mem : Nat → Int} (hn : Noted at_ l mem) (h : ∀ no, (no < at_ ∨ at_ + own ≤ no) → (∀ p ∈ l, p.1 ≠ no) → blockL mem no = v no) : Stands at_ own l v mem := Or.inr (Or.inl ⟨hn, h⟩)
theorem Stands.behind {at_ own : Nat} {l : Grp} {v : Nat → List Int} {mem : Nat → Int} (hi : Idle at_ mem) (h : ∀ no, (no < at_ ∨ at_ + own ≤ no) → (∀ p ∈ l, p.1 ≠ no) → blockL mem no = v no) (hl : ∀ p ∈ l, blockL mem p.1 = p.2) : Stands at_ own l v mem := Or.inr (Or.inr ⟨hi, h, hl⟩)
/-- It is not on its way. -/
def Rests (at_ own : Nat) (l : Grp) (v : Nat → List Int) (mem : Nat → Int) : Prop :=
  (Idle at_ mem ∧ ∀ no, (no < at_ ∨ at_ + own ≤ no) → blockL mem no = v no) ∨
  (Idle at_ mem ∧ (∀ no, (no < at_ ∨ at_ + own ≤ no) → (∀ p ∈ l, p.1 ≠ no) → blockL mem no = v no) ∧ ∀ p ∈ l, blockL mem p.1 = p.2)
theorem Rests.before {at_ own : Nat} {l : Grp} {v : Nat → List Int} {mem : Nat → Int} (hi : Idle at_ mem) (h : ∀ no, (no < at_ ∨ at_ + own ≤ no) → blockL mem no = v no) : Rests at_ own l v mem := Or.inl ⟨hi, h⟩
theorem Rests.behind {at_ own : Nat} {l : Grp} {v : Nat → List Int} {mem : Nat → Int} (hi : Idle at_ mem) (h : ∀ no, (no < at_ ∨ at_ + own ≤ no) → (∀ p ∈ l, p.1 ≠ no) → blockL mem no = v no) (hl : ∀ p ∈ l, blockL mem p.1 = p.2) : Rests at_ own l v mem := Or.inr ⟨hi, h, hl⟩
theorem Rests.stands {at_ own : Nat} {l : Grp} {v : Nat → List Int} {mem : Nat → Int} (h : Rests at_ own l v mem) : Stands at_ own l v mem := by
  rcases h with ⟨h1, h2⟩ | ⟨h1, h2, h3⟩
  · exact .before h1 h2
  · exact .behind h1 h2 h3
theorem Rests.idle {at_ own : Nat} {l : Grp} {v : Nat → List Int} {mem : Nat → Int} (h : Rests at_ own l v mem) : Idle at_ mem := by
  rcases h with ⟨h1, h2⟩ | ⟨h1, h2, h3⟩
  · exact h1
  · exact h1
/-- What an Open leaves. -/
structure Opened (w0 : World) (d g n at_ most own : Nat) (l : Grp) (v : Nat → List Int) (writes left : Int) (e : Ending) (w w' : World) : Prop where
  apart : Apart [d, g] w w'
  out : ∃ mem' writes' left', Sys w0 d g n mem' writes' left' w' ∧ LeftOk left' ∧ writes ≤ writes' ∧ writes' ≤ writes + 300 ∧
    ((∃ jb, e = .returned (.tuple #[ptr jb, .nilIface]) ∧ JAt jb d at_ most w' ∧ w.heap.size ≤ jb ∧ Rests at_ own l v mem' ∧ (left = -1 → left' = -1)) ∨
     (∃ b, e = .returned (.tuple #[.pointer none, flt b]) ∧ left' = 0 ∧ left ≠ -1 ∧ Stands at_ own l v mem'))
theorem open_stands {w0 : World} {d g n : Nat} {mem : Nat → Int} {writes left : Int} {w : World} (h : Sys w0 d g n mem writes left w) (hlo : LeftOk left) (hw : 0 ≤ writes ∧ writes < 400000000) (at_ most : Nat) (hm : 1 ≤ most ∧ most ≤ 200) (hat : at_ + needN most ≤ n) (l : Grp) (h1 : 1 ≤ l.length) (h2 : l.length ≤ most) (hg : Good n at_ (needN most) l) (v : Nat → List Int) (hs : Stands at_ (needN most) l v mem) :
    Calls Tryd.prog 9 #[ptr d, .int .i64 at_, .int .i64 most] w fun e w' => Opened w0 d g n at_ most (needN most) l v writes left e w w' := by
  have hsz : 1 + size l ≤ needN most := by
    have e : size l = rowsN l.length + l.length := rfl
    have e2 := rowsN_mono h2
    unfold needN
    omega
  by_cases hl : left = 0
  · subst hl
    refine (open_dead h at_ most hm hat).mono ?_
    rintro e w' ⟨b, rfl, hB⟩
    exact ⟨Apart.of_below hB, _, _, _, h.more hB, hlo, by omega, by omega, Or.inr ⟨b, rfl, rfl, by decide, hs⟩⟩
  · have idle : Rests at_ (needN most) l v mem → Calls Tryd.prog 9 #[ptr d, .int .i64 at_, .int .i64 most] w fun e w' => Opened w0 d g n at_ most (needN most) l v writes left e w w' := fun hr => by
      refine (open_idle h hl at_ most hm hat hr.idle).mono ?_
      rintro e w' ⟨jb, rfl, hJ, hjb, hB⟩
      exact ⟨Apart.of_below hB, _, _, _, h.more hB, hlo, by omega, by omega, Or.inl ⟨jb, rfl, hJ, hjb, hr, fun e => e⟩⟩
    rcases hs with ⟨a, b⟩ | ⟨hn, hu⟩ | ⟨a, b, c⟩
    · exact idle (.before a b)
    rotate_left
    · exact idle (.behind a b c)
    · skip
      have hll := hg.few
      have hwl : (settleWs at_ l).length ≤ 300 := by simp [settleWs]; omega
      refine (open_noted h hl hlo ⟨hw.1, by omega⟩ at_ most hm hat l h1 h2 hg hn).mono ?_
      rintro e w' ⟨hA, ⟨jb, left', rfl, hJ, hjb, hS, hl', hll'⟩ | ⟨b, k, rfl, hk, hS, hne⟩⟩
      · have hsa := settle_all (mem := mem) hg (by omega) hu
        exact ⟨hA, _, _, _, hS, hl', by omega, by omega, Or.inl ⟨jb, rfl, hJ, hjb, .behind hsa.1 hsa.2.1 hsa.2.2, hll'⟩⟩
      · have hso := settle_some hg hsz hn hu k hk
        exact ⟨hA, _, _, _, hS, by decide, by omega, by omega, Or.inr ⟨b, rfl, rfl, hne, .under hso.1 hso.2⟩⟩
/-- What opened leaves: the group is there, or not. -/
structure OpenedAt (w0 : World) (d g n : Nat) (l : Grp) (v : Nat → List Int) (writes : Int) (e : Ending) (w w' : World) : Prop where
  apart : Apart [d, g] w w'
  out : ∃ jb mem' writes', e = .returned (ptr jb) ∧ Sys w0 d g n mem' writes' (-1) w' ∧ writes ≤ writes' ∧ writes' ≤ writes + 1000 ∧ JAt jb d 4 6 w' ∧ w.heap.size ≤ jb ∧ Rests 4 (needN 6) l v mem'
set_option maxHeartbeats 2000000 in
theorem opened_calls {w0 : World} {d g n : Nat} {mem : Nat → Int} {writes : Int} {w : World} (h : Sys w0 d g n mem writes (-1) w) (hw : 0 ≤ writes ∧ writes < 300000000) (hat : 4 + needN 6 ≤ n) (l : Grp) (h1 : 1 ≤ l.length) (h2 : l.length ≤ 6) (hg : Good n 4 (needN 6) l) (v : Nat → List Int) (hs : Stands 4 (needN 6) l v mem) (f : Int) :
    Calls Tryd.prog 20 #[ptr d, .int .i64 f] w fun e w' => OpenedAt w0 d g n l v writes e w w' := by
  have hdl := h.disk.lt
  -- behind the Fuse
  have key : ∀ (w1 : World) (left : Int), Sys w0 d g n mem writes left w1 → LeftOk left → Apart [d, g] w w1 → Hid (Calls Tryd.prog 9 #[ptr d, .int .i64 4, .int .i64 6] w1 fun e w' => Opened w0 d g n 4 6 (needN 6) l v writes left e w1 w') := fun w1 left hS hl _ =>
    hidden (open_stands hS hl ⟨hw.1, by omega⟩ 4 6 ⟨by omega, by omega⟩ hat l h1 h2 hg v hs)
  have key2 : ∀ (w1 : World) (mem1 : Nat → Int) (wr1 : Int), Sys w0 d g n mem1 wr1 (-1) w1 → 0 ≤ wr1 ∧ wr1 < 400000000 → Stands 4 (needN 6) l v mem1 → Hid (Calls Tryd.prog 9 #[ptr d, .int .i64 4, .int .i64 6] w1 fun e w' => Opened w0 d g n 4 6 (needN 6) l v wr1 (-1) e w1 w') := fun w1 mem1 wr1 hS hwr hst =>
    hidden (open_stands hS (by decide) hwr 4 6 ⟨by omega, by omega⟩ hat l h1 h2 hg v hst)
  replace key := hidden key
  replace key2 := hidden key2
  have hS := hidden h
  clear h hg hs hat
  by_cases hf : f < 0
  · have hf' : ¬ 0 ≤ f := by omega
    have hO := key.out w (-1) hS.out (by decide) (Apart.refl _ _)
    have hA1 := hidden (Apart.refl [d, g] w)
    go_enter Tryd.func20, Tryd.ntmps20
    go_wp2_with fail
    refine (hO.out).mono ?_
    rintro ev w2 ⟨hA2, mem2, wr2, left2, hS2, hlo2, hwa2, hwb2, ⟨jb, rfl, hJ2, hjb, hR2, hl2⟩ | ⟨_, _, _, hne, _⟩⟩
    rotate_left
    · exact absurd rfl hne
    rw [hl2 rfl] at hS2
    have hjd : Hid (jb ≠ d ∧ jb ≠ g) := hidden (by omega)
    replace hA2 := hidden hA2
    replace hS2 := hidden hS2
    replace hJ2 := hidden hJ2
    replace hR2 := hidden hR2
    clear hO hl2
    go_wp2_with fail
    refine (sys_dead hS2.out).mono ?_
    rintro ev w3 ⟨rfl, rfl⟩
    go_wp2_with fail
    refine (sys_fuse hS2.out (-1)).mono ?_
    rintro ev w4 ⟨rfl, hS4, hA4⟩
    rw [show fused (-1) (-1) = -1 from rfl] at hS4
    have hE : Hid (OpenedAt w0 d g n l v writes (.returned (ptr jb)) w w4) := hidden ⟨hA2.out.trans (hA4.mono (by simp)), jb, mem2, wr2, rfl, hS4, by omega, by omega, hJ2.out.keep hA4 (by have := hjd.out; simp; omega), Nat.le_trans hA1.out.size hjb, hR2.out⟩
    clear hS4 hA4 hS2 hJ2 hR2
    go_wp2
    go_ret
    exact hE.out
  · have hf' : 0 ≤ f := by omega
    obtain ⟨F, hF⟩ : ∃ F, bits .and .i64 f 31 = F := ⟨_, rfl⟩
    have hF0 : 0 ≤ F := hF ▸ (and_low f 31 (by decide)).1
    have hF1 : F ≤ 31 := hF ▸ (and_low f 31 (by decide)).2
    go_enter Tryd.func20, Tryd.ntmps20
    go_wp2_with fail
    refine (sys_fuse hS.out F).mono ?_
    rintro ev w1 ⟨rfl, hS1, hA1⟩
    rw [show fused (-1) F = F by unfold fused; rw [if_neg (by decide)]; omega] at hS1
    have hA1 := hidden (hA1.mono (bs := [d]) (cs := [d, g]) (by simp))
    have hO := key.out w1 F hS1 ⟨by omega, by omega⟩ hA1.out
    have hdl1 := hS1.disk.lt
    clear hS1
    go_wp2_with fail
    refine (hO.out).mono ?_
    rintro ev w2 ⟨hA2', mem2, wr2, left2, hS2, hlo2, hwa2, hwb2, ⟨jb, rfl, hJ2, hjb, hR2, hl2⟩ | ⟨b2, rfl, rfl, hne, hSt2⟩⟩
    · have hjd : Hid (jb ≠ d ∧ jb ≠ g) := hidden (by omega)
      have hA2 := hidden (hA1.out.trans hA2')
      replace hJ2 := hidden hJ2
      replace hR2 := hidden hR2
      clear hO hl2 hA2'
      by_cases hz : left2 = 0
      · subst hz
        have hSt2 := hidden hR2.out.stands
        replace hS2 := hidden hS2
        clear hJ2 hR2
        go_wp2_with fail
        refine (sys_dead hS2.out).mono ?_
        rintro ev w3 ⟨rfl, rfl⟩
        go_wp2_with fail
        refine (sys_dead hS2.out).mono ?_
        rintro ev w3 ⟨rfl, rfl⟩
        clear hjd hjb
        go_wp2_with fail
        refine (sys_power hS2.out).mono ?_
        rintro ev w4 ⟨rfl, hS4, hA4⟩
        have hO2 := key2.out w4 mem2 wr2 hS4 (by omega) hSt2.out
        have hA4' := hidden (hA2.out.trans (hA4.mono (bs := [d]) (cs := [d, g]) (by simp)))
        have hdl4 := hS4.disk.lt
        clear hS2 hSt2 hS4 hA4
        go_wp2_with fail
        refine (hO2.out).mono ?_
        rintro ev w5 ⟨hA5, mem5, wr5, left5, hS5, hlo5, hwa5, hwb5, ⟨jb, rfl, hJ5, hjb, hR5, hl5⟩ | ⟨_, _, _, hne, _⟩⟩
        rotate_left
        · exact absurd rfl hne
        rw [hl5 rfl] at hS5
        have hjd : Hid (jb ≠ d ∧ jb ≠ g) := hidden (by omega)
        have hA5' := hidden (hA4'.out.trans hA5)
        replace hS5 := hidden hS5
        replace hJ5 := hidden hJ5
        replace hR5 := hidden hR5
        clear hO2 hA5 hl5
        go_wp2_with fail
        refine (sys_fuse hS5.out (-1)).mono ?_
        rintro ev w6 ⟨rfl, hS6, hA6⟩
        rw [show fused (-1) (-1) = -1 from rfl] at hS6
        have hE : Hid (OpenedAt w0 d g n l v writes (.returned (ptr jb)) w w6) := hidden ⟨hA5'.out.trans (hA6.mono (by simp)), jb, mem5, wr5, rfl, hS6, by omega, by omega, hJ5.out.keep hA6 (by have := hjd.out; simp; omega), Nat.le_trans hA4'.out.size hjb, hR5.out⟩
        clear hS6 hA6 hS5 hJ5 hR5
        go_wp2
        go_ret
        exact hE.out
      · have hz' : (left2 == 0) = false := beq_eq_false_iff_ne.2 hz
        replace hS2 := hidden hS2
        go_wp2_with fail
        refine (sys_dead hS2.out).mono ?_
        rintro ev w3 ⟨rfl, rfl⟩
        go_wp2_with fail
        refine (sys_fuse hS2.out (-1)).mono ?_
        rintro ev w4 ⟨rfl, hS4, hA4⟩
        rw [show fused left2 (-1) = -1 from by unfold fused; rw [if_neg hz]; rfl] at hS4
        have hE : Hid (OpenedAt w0 d g n l v writes (.returned (ptr jb)) w w4) := hidden ⟨hA2.out.trans (hA4.mono (by simp)), jb, mem2, wr2, rfl, hS4, by omega, by omega, hJ2.out.keep hA4 (by have := hjd.out; simp; omega), Nat.le_trans hA1.out.size hjb, hR2.out⟩
        clear hS4 hA4 hS2 hJ2 hR2
        go_wp2
        go_ret
        exact hE.out
    · have hA2 := hidden (hA1.out.trans hA2')
      replace hS2 := hidden hS2
      replace hSt2 := hidden hSt2
      clear hO hA2'
      go_wp2_with fail
      refine (sys_dead hS2.out).mono ?_
      rintro ev w3 ⟨rfl, rfl⟩
      go_wp2_with fail
      refine (sys_power hS2.out).mono ?_
      rintro ev w4 ⟨rfl, hS4, hA4⟩
      have hO2 := key2.out w4 mem2 wr2 hS4 (by omega) hSt2.out
      have hA4' := hidden (hA2.out.trans (hA4.mono (bs := [d]) (cs := [d, g]) (by simp)))
      have hdl4 := hS4.disk.lt
      clear hS2 hSt2 hS4 hA4
      go_wp2_with fail
      refine (hO2.out).mono ?_
      rintro ev w5 ⟨hA5, mem5, wr5, left5, hS5, hlo5, hwa5, hwb5, ⟨jb, rfl, hJ5, hjb, hR5, hl5⟩ | ⟨_, _, _, hne, _⟩⟩
      rotate_left
      · exact absurd rfl hne
      rw [hl5 rfl] at hS5
      have hjd : Hid (jb ≠ d ∧ jb ≠ g) := hidden (by omega)
      have hA5' := hidden (hA4'.out.trans hA5)
      replace hS5 := hidden hS5
      replace hJ5 := hidden hJ5
      replace hR5 := hidden hR5
      clear hO2 hA5 hl5
      go_wp2_with fail
      refine (sys_fuse hS5.out (-1)).mono ?_
      rintro ev w6 ⟨rfl, hS6, hA6⟩
      rw [show fused (-1) (-1) = -1 from rfl] at hS6
      have hE : Hid (OpenedAt w0 d g n l v writes (.returned (ptr jb)) w w6) := hidden ⟨hA5'.out.trans (hA6.mono (by simp)), jb, mem5, wr5, rfl, hS6, by omega, by omega, hJ5.out.keep hA6 (by have := hjd.out; simp; omega), Nat.le_trans hA4'.out.size hjb, hR5.out⟩
      clear hS6 hA6 hS5 hJ5 hR5
      go_wp2
      go_ret
      exact hE.out
/-- What is tells: noughts, or Fill of a number less one. -/
def isL (n : Int) : List Int := if n = 0 then zeroB else fillL (n - 1)
theorem is_calls (n : Int) (h0 : 0 ≤ n) (h1 : n ≤ 1000000) (w : World) :
    Calls Tryd.prog 23 #[.int .i64 n] w fun e w' => e = .returned (.string (ofBytes (isL n))) ∧ Below w.heap.size w w' := by
  by_cases hn : n = 0
  · subst hn
    have hmk := make_block w
    have hz := conv_bytes _ _ _ (ownB_zero w w.heap.size (Nat.le_refl _) 128 (by omega)).bytes
    have hE : isL 0 = zeroB := by unfold isL; rw [if_pos rfl]
    rw [hE]
    generalize ofBytes zeroB = B at hz ⊢
    go_enter Tryd.func23, Tryd.ntmps23
    go_wp2
    go_ret
    exact ⟨rfl, (Below.refl _ _).alloc (Nat.le_refl _) _⟩
  · have hn' : (n == 0) = false := by simpa using hn
    have hE : isL n = fillL (n - 1) := by unfold isL; rw [if_neg hn]
    rw [hE]
    clear hE
    obtain ⟨B, hBB⟩ : ∃ B, ofBytes (fillL (n - 1)) = B := ⟨_, rfl⟩
    rw [hBB]
    replace hBB := hidden hBB
    have hF := hidden (fill_calls (n - 1) w)
    go_enter Tryd.func23, Tryd.ntmps23
    go_wp2_with fail
    refine (hF.out).mono ?_
    rintro ev w1 ⟨rfl, hw1⟩
    have hc := conv_bytes _ _ _ (fillA_bytes (n - 1) w)
    rw [← hw1] at hc
    have hE := hidden (show Below w.heap.size w w1 by rw [hw1]; exact (Below.refl _ _).alloc (Nat.le_refl _) _)
    rw [hBB.out] at hc
    clear hw1 hF
    go_wp2
    go_ret
    exact ⟨rfl, hE.out⟩
end Go.Proofs.YtbagncolhckhjaaDoor
