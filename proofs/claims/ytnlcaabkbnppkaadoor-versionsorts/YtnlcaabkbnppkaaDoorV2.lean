/- version's next: the first token, and what stands behind it. -/
import Derived.Test.YtnlcaabkbnppkaaDoorV1
namespace Go.Proofs.YtnlcaabkbnppkaaDoor
open Go Go.RowKit
set_option maxRecDepth 100000

theorem drop_take (p : UInt8 → Bool) (x : List UInt8) : x.drop (x.takeWhile p).length = x.dropWhile p := by
  conv => lhs; arg 2; rw [← take_drop_while p x]
  rw [List.drop_left]
theorem take_take (p : UInt8 → Bool) (x : List UInt8) : x.take (x.takeWhile p).length = x.takeWhile p := by
  conv => lhs; arg 2; rw [← take_drop_while p x]
  rw [List.take_left]
theorem ex_drop (x : List UInt8) (d : Nat) : (mkB x).extract d (mkB x).size = mkB (x.drop d) := by
  rw [extract_mk, mk_size, List.take_length]
theorem ex_take (x : List UInt8) (d : Nat) : (mkB x).extract 0 d = mkB (x.take d) := by
  rw [extract_mk, List.drop_zero]
set_option maxHeartbeats 4000000 in
theorem next_calls (x : List UInt8) (w : World) (hx : x.length ≤ 1000000) : Calls Tryd.prog 14 #[.string (mkB x)] w fun e w' => e = .returned (.tuple #[tokV (nextB x).1, .string (mkB (nextB x).2)]) ∧ Below w.heap.size w w' := by
  have kR := hidden (fun w => run_calls x 1 w hx)
  have e1 := drop_take (fun c => clsB c == 1) x
  have l1 := take_len (fun c => clsB c == 1) x
  have m1 := drop_len (fun c => clsB c == 1) x
  have ex := ex_drop x (x.takeWhile (fun c => clsB c == 1)).length
  have hz := mk_size x
  obtain ⟨r, hr⟩ : ∃ r, nextB x = r := ⟨_, rfl⟩
  rw [hr]
  unfold nextB at hr
  rw [e1, mk_size] at ex
  generalize hd : (x.takeWhile (fun c => clsB c == 1)).length = d at *
  generalize hs0 : x.dropWhile (fun c => clsB c == 1) = s1 at *
  have b1 : (0 : Int) ≤ (d : Int) := by omega
  have b2 : (d : Int) ≤ ((mkB x).size : Int) := by omega
  clear hd e1
  have hBw := hidden (fun (o : Obj) => (Below.refl w.heap.size w).alloc (Nat.le_refl _) o)
  replace hs0 := hidden hs0
  cases s1 with
  | nil =>
    clear hs0
    have hne : (mkB []).toList.isEmpty = true := by rw [mk_toList]; rfl
    subst hr
    clear m1
    go_enter Tryd.func14, Tryd.ntmps14
    go_wp2_with fail
    refine (kR.out _).mono ?_
    rintro e w1 ⟨rfl, rfl⟩
    clear kR
    go_wp2
    refine bodyPost_ret (ret_tk (b := w.heap.size) (t := (1, [])) rfl rfl ⟨by simp, by simp; rfl⟩) rfl ?_
    exact ⟨rfl, hBw.out _⟩
  | cons c t =>
    replace hr := hidden hr
    obtain ⟨s1, hs⟩ : ∃ s, c :: t = s := ⟨_, rfl⟩
    rw [hs] at ex m1
    have hne : (mkB s1).toList.isEmpty = false := by rw [mk_toList, ← hs]; rfl
    have hz1 := mk_size s1
    have h0 : 0 < (mkB s1).size := by rw [hz1, ← hs]; simp
    have hlt : (0 : Int) < (s1.length : Int) := by rw [hz1] at h0; omega
    have hg : (mkB s1)[0]'h0 = c := by rw [mk_get s1 0 (by rw [← hs]; simp)]; simp [← hs]
    have kC := hidden (class_calls c)
    have hc1 := hidden (show clsB c ≠ 1 by have := drop_head _ x c t hs0.out; simpa using this)
    replace hs := hidden hs
    go_enter Tryd.func14, Tryd.ntmps14
    go_wp2_with fail
    refine (kR.out _).mono ?_
    rintro e w1 ⟨rfl, rfl⟩
    clear kR
    go_wp2_with fail
    refine (kC.out _).mono ?_
    rintro e w1 ⟨rfl, rfl⟩
    clear kC ex hne hz b1 b2
    have hB2 := hidden (fun (o : Obj) (p : Addr) (hp : p.block = w.heap.size) (v : Value) => (hBw.out o).setCell (p := p) (by rw [hp]; exact Nat.le_refl _) v)
    by_cases h3 : clsB c = 3
    · rw [h3]
      have e2 := drop_take (fun c => clsB c == 3) (s1.dropWhile (· == 48))
      have e3 := take_take (fun c => clsB c == 3) (s1.dropWhile (· == 48))
      have l2 := take_len (fun c => clsB c == 3) (s1.dropWhile (· == 48))
      have l3 := drop_len (· == 48) s1
      have kT := hidden (fun w => Tryd.strings_TrimLeft_one (mkB s1) 48 (by decide) w)
      rw [mk_list, show Lib.trimLeftB s1 48 = s1.dropWhile (· == 48) from rfl] at kT
      have kU := hidden (fun w => run_calls (s1.dropWhile (· == 48)) 3 w (by omega))
      have hr' := hr.out
      rw [hs.out, if_pos h3] at hr'
      generalize s1.dropWhile (· == 48) = s2 at *
      have f1 := ex_drop s2 (s2.takeWhile (fun c => clsB c == 3)).length
      have f2 := ex_take s2 (s2.takeWhile (fun c => clsB c == 3)).length
      have hz2 := mk_size s2
      rw [e2, mk_size] at f1
      rw [e3] at f2
      replace hr' := hidden hr'
      generalize (s2.takeWhile (fun c => clsB c == 3)).length = n at *
      generalize s2.takeWhile (fun c => clsB c == 3) = t2 at *
      generalize s2.dropWhile (fun c => clsB c == 3) = r2 at *
      have b1 : (0 : Int) ≤ (n : Int) := by omega
      have b2 : (n : Int) ≤ (s2.length : Int) := by omega
      have hfold : (⟨s2.toArray⟩ : ByteArray) = mkB s2 := rfl
      rw [hfold] at kT
      clear e2 e3 l2 l3 hr hs hg h0 hlt hz1 h3 m1 l1 hx hfold
      go_wp2_with fail
      refine (kT.out _).mono ?_
      rintro e w1 ⟨rfl, rfl⟩
      go_wp2_with fail
      refine (kU.out _).mono ?_
      rintro e w1 ⟨rfl, rfl⟩
      clear kT kU
      go_upto_region 12 with fail
      go_region
      go_wp2
      obtain rfl := hr'.out
      refine bodyPost_ret (ret_tk (b := w.heap.size) (t := (3, t2)) rfl rfl ⟨by simp, by simp⟩) rfl ?_
      exact ⟨rfl, (hBw.out _).drew⟩
    · by_cases h2 : clsB c = 2
      · rw [h2]
        have e2 := drop_take (fun c => clsB c == 2) s1
        have e3 := take_take (fun c => clsB c == 2) s1
        have l2 := take_len (fun c => clsB c == 2) s1
        have kU := hidden (fun w => run_calls s1 2 w (by omega))
        have hr' := hr.out
        rw [hs.out, if_neg h3, if_pos h2] at hr'
        have f1 := ex_drop s1 (s1.takeWhile (fun c => clsB c == 2)).length
        have f2 := ex_take s1 (s1.takeWhile (fun c => clsB c == 2)).length
        rw [e2, hz1] at f1
        rw [e3] at f2
        replace hr' := hidden hr'
        generalize (s1.takeWhile (fun c => clsB c == 2)).length = n at *
        generalize s1.takeWhile (fun c => clsB c == 2) = t2 at *
        generalize s1.dropWhile (fun c => clsB c == 2) = r2 at *
        have b1 : (0 : Int) ≤ (n : Int) := by omega
        have b2 : (n : Int) ≤ (s1.length : Int) := by omega
        clear e2 e3 l2 hr hs hg h0 hlt h3 h2 m1 l1 hx
        go_upto_region 10 with fail
        go_wp2_with fail
        refine (kU.out _).mono ?_
        rintro e w1 ⟨rfl, rfl⟩
        clear kU
        go_upto_region 12 with fail
        go_region
        go_wp2
        obtain rfl := hr'.out
        refine bodyPost_ret (ret_tk (b := w.heap.size) (t := (2, t2)) rfl rfl ⟨by simp, by simp⟩) rfl ?_
        exact ⟨rfl, (hBw.out _).drew⟩
      · have h00 : clsB c = 0 := by
          rcases cls_cases c with h | h | h | h
          · exact h
          · have := hc1.out; omega
          · exact absurd h h2
          · exact absurd h h3
        rw [h00]
        have hr' := hr.out
        rw [if_neg h3, if_neg h2] at hr'
        have f1 := ex_drop s1 1
        have f2 := ex_take s1 1
        rw [hz1] at f1
        rw [show s1.drop 1 = t by rw [← hs.out]; rfl] at f1
        rw [show s1.take 1 = [c] by rw [← hs.out]; rfl] at f2
        have b2 : (1 : Int) ≤ (s1.length : Int) := by omega
        replace hr' := hidden hr'
        clear hr hs hg h0 hlt h3 h2 m1 l1 hx
        go_upto_region 12 with fail
        go_region
        go_wp2
        obtain rfl := hr'.out
        refine bodyPost_ret (ret_tk (b := w.heap.size) (t := (0, [c])) rfl rfl ⟨by simp, by simp⟩) rfl ?_
        exact ⟨rfl, (hBw.out _).drew⟩
end Go.Proofs.YtnlcaabkbnppkaaDoor
