/- FaultRaw answers true, whatever it is given, and changes nothing that was there. -/
import Derived.Test.YtiaplgdplenedaaDoorNils
namespace Go.Proofs.YtiaplgdplenedaaDoor
open Go.RowKit Go.Extern.Stop Go.Stop Go.Extern
set_option maxRecDepth 100000

/-- What is told of an error in whatever memory lies behind W: so many Faults, at most a hundred, and its number. -/
structure Told (W : World) (e : Value) (d : Nat) (k : Int) : Prop where
  depth : ∀ w1, Below W.heap.size W w1 → Calls Tryd.prog 15 #[e] w1 fun ev w' => ev = .returned (.int .i64 (d : Int)) ∧ Below w1.heap.size w1 w'
  ops : ∀ w1, Below W.heap.size W w1 → Calls Tryd.prog 12 #[e] w1 fun ev w' => ∃ a cap, ev = .returned (.slice a d cap) ∧ Below w1.heap.size w1 w'
  names : ∀ w1, Below W.heap.size W w1 → Calls Tryd.prog 17 #[e] w1 fun ev w' => ∃ a cap, ev = .returned (.slice a d cap) ∧ Below w1.heap.size w1 w'
  num : ∀ w1, Below W.heap.size W w1 → Calls Tryd.prog 14 #[e] w1 fun ev w' => ev = .returned (.int .i64 k) ∧ Below w1.heap.size w1 w'
theorem ops_len (w : World) (l : List (ByteArray × ByteArray)) (bot e : Value) (hbot : bot = .nilIface ∨ ∃ n, bot = num n) (hc : Chain w l bot e) (hl : l.length < 1000000) :
    Calls Tryd.prog 12 #[e] w fun ev w' => ∃ a cap, ev = .returned (.slice a (min l.length 100) cap) ∧ Below w.heap.size w w' := by
  obtain ⟨bs, hbs⟩ := hc.blocks
  refine (ops_chain w l bs bot e hbot hbs hl).mono ?_
  rintro ev w' ⟨v, rfl, hown, hB⟩
  obtain ⟨a, cap, rfl⟩ := owned_shape hown
  exact ⟨a, cap, rfl, hB⟩
theorem names_len (w : World) (l : List (ByteArray × ByteArray)) (bot e : Value) (hbot : bot = .nilIface ∨ ∃ n, bot = num n) (hc : Chain w l bot e) (hl : l.length < 1000000) :
    Calls Tryd.prog 17 #[e] w fun ev w' => ∃ a cap, ev = .returned (.slice a (min l.length 100) cap) ∧ Below w.heap.size w w' := by
  obtain ⟨bs, hbs⟩ := hc.blocks
  refine (names_chain w l bs bot e hbot hbs hl).mono ?_
  rintro ev w' ⟨v, rfl, hown, hB⟩
  obtain ⟨a, cap, rfl⟩ := owned_shape hown
  exact ⟨a, cap, rfl, hB⟩
theorem told_chain {W : World} {l : List (ByteArray × ByteArray)} {n : Int} {e : Value} (hc : Chain W l (num n) e) (hl : l.length ≤ 100) (hg : GT W) : Told W e l.length n where
  depth w1 h1 := depth_chain n w1 l e (hc.below h1) (by omega)
  ops w1 h1 := by
    have h := ops_len w1 l _ e (Or.inr ⟨n, rfl⟩) (hc.below h1) (by omega)
    rw [Nat.min_eq_left hl] at h
    exact h
  names w1 h1 := by
    have h := names_len w1 l _ e (Or.inr ⟨n, rfl⟩) (hc.below h1) (by omega)
    rw [Nat.min_eq_left hl] at h
    exact h
  num w1 h1 := num_chain n w1 l e (hc.below h1) (by omega) (hg.below h1)
theorem told_raw {W : World} {op nm : ByteArray} {b : Nat} (hc : Chain W [(op, nm)] .nilIface (flt b)) (hg : GT W) : Told W (flt b) 1 1 where
  depth w1 h1 := depth_raw b op nm w1 (hc.below h1)
  ops w1 h1 := ops_len w1 [(op, nm)] _ _ (Or.inl rfl) (hc.below h1) (by simp)
  names w1 h1 := names_len w1 [(op, nm)] _ _ (Or.inl rfl) (hc.below h1) (by simp)
  num w1 h1 := num_raw b op nm w1 (hc.below h1) (hg.below h1)

set_option maxHeartbeats 1000000 in
theorem raw0 (op nm : ByteArray) (n kind : Int) (w : World) (hg : GT w) (hk : bits .and .i64 kind 3 = 0) :
    Calls Tryd.prog 8 #[.string op, .string nm, .int .i64 n, .int .i64 kind] w fun ev w' => ev = .returned (.bool true) ∧ Below w.heap.size w w' := by
  have hB0 : Below w.heap.size w w := Below.refl _ _
  have T := hidden (told_chain (W := w) (l := []) (n := n) (e := num n) rfl (by simp) hg)
  go_enter Tryd.func8, Tryd.ntmps8
  go_wp2_with fail
  refine (T.out.depth _ (Below.refl _ _)).mono ?_
  rintro ev w1 ⟨rfl, hB1⟩
  have hs1 := hB1.size
  go_wp2_with fail
  refine (T.out.ops _ hB1).mono ?_
  rintro ev w2 ⟨a2, c2, rfl, hB2⟩
  replace hB2 := hB1.trans (hB2.mono hs1)
  have hs2 := hB2.size
  clear hB1 hs1
  go_wp2_with fail
  refine (T.out.names _ hB2).mono ?_
  rintro ev w3 ⟨a3, c3, rfl, hB3⟩
  replace hB3 := hB2.trans (hB3.mono hs2)
  have hs3 := hB3.size
  clear hB2 hs2
  go_wp2_with fail
  refine (T.out.num _ hB3).mono ?_
  rintro ev w4 ⟨rfl, hB4⟩
  replace hB4 := hB3.trans (hB4.mono hs3)
  have hs4 := hB4.size
  clear hB3 hs3
  go_wp2_with fail
  refine (awake_calls w4 ((hg.below hB0).below hB4)).mono ?_
  rintro ev w5 ⟨rfl, hB5⟩
  replace hB5 := hB4.trans (hB5.mono hs4)
  go_wp2
  go_ret
  exact ⟨rfl, hB0.trans (hB5.mono hB0.size)⟩

set_option maxHeartbeats 1000000 in
theorem raw1 (op nm : ByteArray) (n kind : Int) (w : World) (hg : GT w) (hk : bits .and .i64 kind 3 = 1) :
    Calls Tryd.prog 8 #[.string op, .string nm, .int .i64 n, .int .i64 kind] w fun ev w' => ev = .returned (.bool true) ∧ Below w.heap.size w w' := by
  have hB0 : Below w.heap.size w (w.alloc (fcells op nm .nilIface)) := (Below.refl _ _).alloc (Nat.le_refl _) _
  have T := hidden (told_raw (Chain.alloc (w := w) (l := []) (bot := .nilIface) (e := .nilIface) op nm rfl) (hg.below hB0))
  go_enter Tryd.func8, Tryd.ntmps8
  go_wp2_with fail
  refine (T.out.depth _ (Below.refl _ _)).mono ?_
  rintro ev w1 ⟨rfl, hB1⟩
  have hs1 := hB1.size
  go_wp2_with fail
  refine (T.out.ops _ hB1).mono ?_
  rintro ev w2 ⟨a2, c2, rfl, hB2⟩
  replace hB2 := hB1.trans (hB2.mono hs1)
  have hs2 := hB2.size
  clear hB1 hs1
  go_wp2_with fail
  refine (T.out.names _ hB2).mono ?_
  rintro ev w3 ⟨a3, c3, rfl, hB3⟩
  replace hB3 := hB2.trans (hB3.mono hs2)
  have hs3 := hB3.size
  clear hB2 hs2
  go_wp2_with fail
  refine (T.out.num _ hB3).mono ?_
  rintro ev w4 ⟨rfl, hB4⟩
  replace hB4 := hB3.trans (hB4.mono hs3)
  have hs4 := hB4.size
  clear hB3 hs3
  go_wp2_with fail
  refine (awake_calls w4 ((hg.below hB0).below hB4)).mono ?_
  rintro ev w5 ⟨rfl, hB5⟩
  replace hB5 := hB4.trans (hB5.mono hs4)
  go_wp2
  go_ret
  exact ⟨rfl, hB0.trans (hB5.mono hB0.size)⟩

set_option maxHeartbeats 1000000 in
theorem raw2 (op nm : ByteArray) (n kind : Int) (w : World) (hg : GT w) (hk : bits .and .i64 kind 3 = 2) :
    Calls Tryd.prog 8 #[.string op, .string nm, .int .i64 n, .int .i64 kind] w fun ev w' => ev = .returned (.bool true) ∧ Below w.heap.size w w' := by
  have hB0 : Below w.heap.size w (w.alloc (fcells op nm (num n))) := (Below.refl _ _).alloc (Nat.le_refl _) _
  have T := hidden (told_chain (Chain.alloc (w := w) (l := []) (bot := num n) (e := num n) op nm rfl) (by simp) (hg.below hB0))
  go_enter Tryd.func8, Tryd.ntmps8
  go_wp2_with fail
  refine (T.out.depth _ (Below.refl _ _)).mono ?_
  rintro ev w1 ⟨rfl, hB1⟩
  have hs1 := hB1.size
  go_wp2_with fail
  refine (T.out.ops _ hB1).mono ?_
  rintro ev w2 ⟨a2, c2, rfl, hB2⟩
  replace hB2 := hB1.trans (hB2.mono hs1)
  have hs2 := hB2.size
  clear hB1 hs1
  go_wp2_with fail
  refine (T.out.names _ hB2).mono ?_
  rintro ev w3 ⟨a3, c3, rfl, hB3⟩
  replace hB3 := hB2.trans (hB3.mono hs2)
  have hs3 := hB3.size
  clear hB2 hs2
  go_wp2_with fail
  refine (T.out.num _ hB3).mono ?_
  rintro ev w4 ⟨rfl, hB4⟩
  replace hB4 := hB3.trans (hB4.mono hs3)
  have hs4 := hB4.size
  clear hB3 hs3
  go_wp2_with fail
  refine (awake_calls w4 ((hg.below hB0).below hB4)).mono ?_
  rintro ev w5 ⟨rfl, hB5⟩
  replace hB5 := hB4.trans (hB5.mono hs4)
  go_wp2
  go_ret
  exact ⟨rfl, hB0.trans (hB5.mono hB0.size)⟩

set_option maxHeartbeats 1000000 in
theorem raw3 (op nm : ByteArray) (n kind : Int) (w : World) (hg : GT w) (hk : bits .and .i64 kind 3 = 3) :
    Calls Tryd.prog 8 #[.string op, .string nm, .int .i64 n, .int .i64 kind] w fun ev w' => ev = .returned (.bool true) ∧ Below w.heap.size w w' := by
  have hB0 : Below w.heap.size w ((w.alloc (fcells nm op (num n))).alloc (fcells op nm (flt w.heap.size))) := ((Below.refl _ _).alloc (Nat.le_refl _) _).alloc (by simp) _
  have C : Chain ((w.alloc (fcells nm op (num n))).alloc (fcells op nm (flt w.heap.size))) [(op, nm), (nm, op)] (num n) (flt (w.heap.size + 1)) := by
    have h := (Chain.alloc (w := w) (l := []) (bot := num n) (e := num n) nm op rfl).alloc op nm
    simpa using h
  have T := hidden (told_chain C (by simp) (hg.below hB0))
  clear C
  go_enter Tryd.func8, Tryd.ntmps8
  go_wp2_with fail
  refine (wrap_some op nm _ _ _).mono ?_
  rintro ev w' ⟨rfl, rfl⟩
  go_wp2_with fail
  refine (T.out.depth _ (Below.refl _ _)).mono ?_
  rintro ev w1 ⟨rfl, hB1⟩
  have hs1 := hB1.size
  go_wp2_with fail
  refine (T.out.ops _ hB1).mono ?_
  rintro ev w2 ⟨a2, c2, rfl, hB2⟩
  replace hB2 := hB1.trans (hB2.mono hs1)
  have hs2 := hB2.size
  clear hB1 hs1
  go_wp2_with fail
  refine (T.out.names _ hB2).mono ?_
  rintro ev w3 ⟨a3, c3, rfl, hB3⟩
  replace hB3 := hB2.trans (hB3.mono hs2)
  have hs3 := hB3.size
  clear hB2 hs2
  go_wp2_with fail
  refine (T.out.num _ hB3).mono ?_
  rintro ev w4 ⟨rfl, hB4⟩
  replace hB4 := hB3.trans (hB4.mono hs3)
  have hs4 := hB4.size
  clear hB3 hs3
  go_wp2_with fail
  refine (awake_calls w4 ((hg.below hB0).below hB4)).mono ?_
  rintro ev w5 ⟨rfl, hB5⟩
  replace hB5 := hB4.trans (hB5.mono hs4)
  go_wp2
  go_ret
  exact ⟨rfl, hB0.trans (hB5.mono hB0.size)⟩

theorem raw_calls (op nm : ByteArray) (n kind : Int) (w : World) (hg : GT w) :
    Calls Tryd.prog 8 #[.string op, .string nm, .int .i64 n, .int .i64 kind] w fun ev w' => ev = .returned (.bool true) ∧ Below w.heap.size w w' := by
  obtain ⟨h0, h1⟩ : 0 ≤ bits .and .i64 kind 3 ∧ bits .and .i64 kind 3 ≤ 3 := and_low kind 3 (by decide)
  obtain h | h | h | h : bits .and .i64 kind 3 = 0 ∨ bits .and .i64 kind 3 = 1 ∨ bits .and .i64 kind 3 = 2 ∨ bits .and .i64 kind 3 = 3 := by omega
  · exact raw0 op nm n kind w hg h
  · exact raw1 op nm n kind w hg h
  · exact raw2 op nm n kind w hg h
  · exact raw3 op nm n kind w hg h
end Go.Proofs.YtiaplgdplenedaaDoor
