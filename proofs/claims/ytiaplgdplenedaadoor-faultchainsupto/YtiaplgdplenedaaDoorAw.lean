/- What the statements call awake: the document's own example holds, whatever lies in memory. -/
import Derived.Test.YtiaplgdplenedaaDoorTx2
namespace Go.Proofs.YtiaplgdplenedaaDoor
open Go.RowKit Go.Extern.Stop Go.Stop Go.Extern
set_option maxRecDepth 100000

set_option maxHeartbeats 1000000 in
theorem law_is (n : Int) (hn : (n == 0) = false) (w : World) (op nm : ByteArray) (l : List (ByteArray × ByteArray)) (e : Value) (hc : Chain w ((op, nm) :: l) (num n) e) (hg : GT w) :
    Calls Tryd.prog 18 #[e, .string op, .string nm, .int .i64 n] w fun ev w' => ev = .returned (.bool true) ∧ Below w.heap.size w w' := by
  have hB0 : Below w.heap.size w (w.alloc (.cells #[.pointer none] 43)) := (Below.refl _ _).alloc (Nat.le_refl _) _
  have hcH := hidden hc
  obtain ⟨b, e', rfl, hb, -, h0, h1, h2, hr⟩ := hc
  have hAs := hidden (asF (w.alloc (.cells #[.pointer none] 43)) b (.pointer none) ⟨w.heap.size, 0, none⟩ (by simp) (by simp) (hg.below hB0))
  clear h2 hr hg
  go_enter Tryd.func18, Tryd.ntmps18
  go_wp2_with fail
  refine (hAs.out).mono ?_
  rintro ev w1 ⟨rfl, W, hB1, hw1⟩
  have hsz : (w.alloc (.cells #[.pointer none] 43)).heap.size = w.heap.size + 1 := by simp
  rw [hsz] at hB1
  have hBW : Below w.heap.size w w1 := by rw [hw1]; exact (hB0.trans (hB1.mono (by omega))).setCell (Nat.le_refl _) _
  have ct : w1.cell? ⟨w.heap.size, 0, none⟩ = some (.pointer (some ⟨b, 0, none⟩)) := by
    rw [hw1]; exact World.cell?_setCell_same' _ _ _ (by rw [hB1.cell (p := ⟨w.heap.size, 0, none⟩) (by show w.heap.size < _; omega)]; simp)
  have c0 : w1.cell? ⟨b, 0, none⟩ = some (.string op) := (hBW.cell (p := ⟨b, 0, none⟩) hb).trans h0
  have c1 : w1.cell? ⟨b, 1, none⟩ = some (.string nm) := (hBW.cell (p := ⟨b, 1, none⟩) hb).trans h1
  have hI := hidden (is_chain n n w1 ((op, nm) :: l) (flt b) (hcH.out.below hBW))
  clear hw1 hB1 h0 h1 hAs hsz
  go_wp2_with (go_at_call 20; refine (hI.out).mono ?_; rintro ev w' ⟨rfl, rfl⟩)
  go_ret
  refine ⟨?_, hBW⟩
  simp

def errHead : List UInt8 := [101, 114, 114, 111, 114, 32]
theorem cat_bytes (a b : List UInt8) : (⟨a.toArray⟩ : ByteArray) ++ ⟨b.toArray⟩ = ⟨(a ++ b).toArray⟩ := by
  apply ByteArray.ext
  simp
theorem decDigits_le (n : Nat) (hn : n < 100) : (Lib.decDigits n).length ≤ 2 := by
  by_cases h : n < 10
  · rw [Lib.decDigits_one h]; simp
  · rw [Lib.decDigits_two h hn]; simp
theorem errno_small (n : Nat) (hn : n < 100) (w : World) :
    Calls Tryd.prog 19 #[.int .i64 n] w fun ev w' => ev = .returned (.string ⟨(errHead ++ Lib.decDigits n).toArray⟩) ∧ w' = w := by
  have hle := decDigits_le n hn
  go_enter Tryd.func19, Tryd.ntmps19
  go_wp2_with (go_at_call 30; refine (Tryd.strconv_Itoa_small n hn _).mono ?_; rintro ev w' ⟨rfl, rfl⟩)
  go_ret
  exact ⟨congrArg (fun s => Ending.returned (.string s)) (cat_bytes errHead (Lib.decDigits n)), rfl⟩

theorem text_chain (n : Int) (w : World) (l : List (ByteArray × ByteArray)) (e : Value) (t : List UInt8) (hc : Chain w l (num n) e) (hl : l.length < 1000000) (hg : GT w)
    (hlen : (chainText (l.take (min l.length 100))).length + t.length ≤ 140737488355328)
    (herr : ∀ w1, Below w.heap.size w w1 → Calls Tryd.prog 19 #[.int .i64 n] w1 fun ev w' => ev = .returned (.string ⟨t.toArray⟩) ∧ Below w1.heap.size w1 w') :
    Calls Tryd.prog 13 #[e] w fun ev w' => ev = .returned (.string ⟨(chainText (l.take (min l.length 100)) ++ t).toArray⟩) ∧ Below w.heap.size w w' := by
  obtain ⟨bs, hbs⟩ := hc.blocks
  obtain ⟨u, v, rfl⟩ := hc.held (Or.inr ⟨_, _, rfl⟩)
  have h := faults_chain (bW w) l bs (num n) (.iface u v) (Or.inr ⟨n, rfl⟩) (ChainB.below (bW_below w) hbs) hl
  have ht : bs.take 100 = bs.take (min l.length 100) := by rw [← hbs.len, Nat.min_comm, ← List.take_take, List.take_length]
  rw [ht] at h
  exact text_low w l bs u v _ n t (Nat.min_le_right _ _) (Nat.min_le_left _ _) hlen (hidden hbs.nth) (hidden h) (hidden fun w1 h1 => num_chain n w1 l _ (hc.below h1) hl (hg.below h1)) (hidden herr)

abbrev sBoot : ByteArray := ⟨#[98, 111, 111, 116]⟩
abbrev sA : ByteArray := ⟨#[97]⟩
abbrev sRead : ByteArray := ⟨#[114, 101, 97, 100]⟩
abbrev sB : ByteArray := ⟨#[47, 98]⟩
abbrev exampleText : ByteArray := ⟨#[98, 111, 111, 116, 32, 97, 58, 32, 114, 101, 97, 100, 32, 47, 98, 58, 32, 101, 114, 114, 111, 114, 32, 49, 49]⟩
theorem example_eq : (⟨(chainText ([(sBoot, sA), (sRead, sB)].take (min [(sBoot, sA), (sRead, sB)].length 100)) ++ (errHead ++ Lib.decDigits 11)).toArray⟩ : ByteArray) = exampleText := by
  rw [Lib.decDigits_two (i := 11) (by decide) (by decide)]
  simp [chainText, faultText, errHead]
theorem example_len : (chainText ([(sBoot, sA), (sRead, sB)].take (min [(sBoot, sA), (sRead, sB)].length 100))).length + (errHead ++ Lib.decDigits 11).length ≤ 140737488355328 := by
  rw [Lib.decDigits_two (i := 11) (by decide) (by decide)]
  simp [chainText, faultText, errHead]
abbrev exW (w : World) : World := (w.alloc (fcells sRead sB (num 11))).alloc (fcells sBoot sA (flt w.heap.size))
theorem exW_below (w : World) : Below w.heap.size w (exW w) := ((Below.refl _ _).alloc (Nat.le_refl _) _).alloc (by simp) _
theorem exW_chain (w : World) : Chain (exW w) [(sBoot, sA), (sRead, sB)] (num 11) (flt (w.heap.size + 1)) := by
  have h := (Chain.alloc (w := w) (l := []) (bot := num 11) (e := num 11) sRead sB rfl).alloc sBoot sA
  simpa using h

set_option maxHeartbeats 1000000 in
theorem awake_calls (w : World) (hg : GT w) :
    Calls Tryd.prog 11 #[] w fun ev w' => ev = .returned (.bool true) ∧ Below w.heap.size w w' := by
  have k2 : ∀ w1, Below (exW w).heap.size (exW w) w1 → Hid (Calls Tryd.prog 13 #[flt (w.heap.size + 1)] w1 fun ev w' => ev = .returned (.string exampleText) ∧ Below w1.heap.size w1 w') := fun w1 h1 => hidden (by
    have h := text_chain 11 w1 [(sBoot, sA), (sRead, sB)] (flt (w.heap.size + 1)) (errHead ++ Lib.decDigits 11) ((exW_chain w).below h1) (by decide) ((hg.below (exW_below w)).below h1) example_len
      (fun w2 _ => (errno_small 11 (by decide) w2).mono fun _ _ h => ⟨h.1, by rw [h.2]; exact Below.refl _ _⟩)
    rw [example_eq] at h
    exact h)
  have k1 := hidden (law_is 11 (by decide) (exW w) sBoot sA [(sRead, sB)] _ (exW_chain w) (hg.below (exW_below w)))
  have k3 : ∀ w1, Below (exW w).heap.size (exW w) w1 → Hid (Calls Tryd.prog 14 #[flt (w.heap.size + 1)] w1 fun ev w' => ev = .returned (.int .i64 11) ∧ Below w1.heap.size w1 w') := fun w1 h1 => hidden
    (num_chain 11 w1 _ _ ((exW_chain w).below h1) (by decide) ((hg.below (exW_below w)).below h1))
  have k4 : ∀ w1, Below (exW w).heap.size (exW w) w1 → Hid (Calls Tryd.prog 15 #[flt (w.heap.size + 1)] w1 fun ev w' => ev = .returned (.int .i64 2) ∧ Below w1.heap.size w1 w') := fun w1 h1 => hidden
    (depth_chain 11 w1 _ _ ((exW_chain w).below h1) (by decide))
  replace k2 := hidden k2
  replace k3 := hidden k3
  replace k4 := hidden k4
  have hB0 := exW_below w
  have hs0 : w.heap.size ≤ (exW w).heap.size := hB0.size
  go_enter Tryd.func11, Tryd.ntmps11
  go_wp2_with fail
  refine (new_num sRead sB 11 w (by decide)).mono ?_
  rintro ev w' ⟨rfl, rfl⟩
  go_wp2_with fail
  refine (wrap_some sBoot sA _ _ _).mono ?_
  rintro ev w' ⟨rfl, rfl⟩
  go_wp2_with fail
  refine (k1.out).mono ?_
  rintro ev w1 ⟨rfl, hB1⟩
  have hs1 := hB1.size
  go_wp2_with fail
  refine ((k2.out w1 hB1).out).mono ?_
  rintro ev w2 ⟨rfl, hB2⟩
  replace hB2 := hB1.trans (hB2.mono hs1)
  have hs2 := hB2.size
  clear hB1 hs1
  go_wp2_with fail
  refine ((k3.out w2 hB2).out).mono ?_
  rintro ev w3 ⟨rfl, hB3⟩
  replace hB3 := hB2.trans (hB3.mono hs2)
  have hs3 := hB3.size
  clear hB2 hs2
  go_wp2_with fail
  refine ((k4.out w3 hB3).out).mono ?_
  rintro ev w4 ⟨rfl, hB4⟩
  replace hB4 := hB3.trans (hB4.mono hs3)
  clear hB3 hs3
  go_wp2_with fail
  refine (new_ok _ _ w4).mono ?_
  rintro ev w5 ⟨rfl, rfl⟩
  go_wp2_with fail
  refine (wrap_nil _ _ w5).mono ?_
  rintro ev w6 ⟨rfl, rfl⟩
  go_wp2
  go_ret
  exact ⟨rfl, hB0.trans (hB4.mono hs0)⟩
end Go.Proofs.YtiaplgdplenedaaDoor
