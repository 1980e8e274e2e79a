/- FaultTexts, walked. -/
import Derived.Test.YtiaplgdplenedaaDoorTxs
namespace Go.Proofs.YtiaplgdplenedaaDoor
open Go.RowKit Go.Extern.Stop Go.Stop Go.Extern
set_option maxRecDepth 100000

/-- What FaultTexts asks of the two errors, in whatever memory lies behind W. -/
structure Pair (W : World) (e f : Value) (d : Nat) (k : Int) (s1 s2 op : ByteArray) : Prop where
  opsF : ∀ w1, Below W.heap.size W w1 → Calls Tryd.prog 12 #[f] w1 fun ev w' => ∃ g cap, ev = .returned (.slice (some ⟨g, 0, none⟩) (d + 1) cap) ∧ g < w'.heap.size ∧ w'.cell? ⟨g, 0, none⟩ = some (.string op) ∧ Below w1.heap.size w1 w'
  opsE : ∀ w1, Below W.heap.size W w1 → Calls Tryd.prog 12 #[e] w1 fun ev w' => ∃ a cap, ev = .returned (.slice a d cap) ∧ Below w1.heap.size w1 w'
  textF : ∀ w1, Below W.heap.size W w1 → Calls Tryd.prog 13 #[f] w1 fun ev w' => ev = .returned (.string s1) ∧ Below w1.heap.size w1 w'
  textE : ∀ w1, Below W.heap.size W w1 → Calls Tryd.prog 13 #[e] w1 fun ev w' => ev = .returned (.string s2) ∧ Below w1.heap.size w1 w'
  numF : ∀ w1, Below W.heap.size W w1 → Calls Tryd.prog 14 #[f] w1 fun ev w' => ev = .returned (.int .i64 k) ∧ Below w1.heap.size w1 w'
  numE : ∀ w1, Below W.heap.size W w1 → Calls Tryd.prog 14 #[e] w1 fun ev w' => ev = .returned (.int .i64 k) ∧ Below w1.heap.size w1 w'
  depthF : ∀ w1, Below W.heap.size W w1 → Calls Tryd.prog 15 #[f] w1 fun ev w' => ev = .returned (.int .i64 ((d + 1 : Nat) : Int)) ∧ Below w1.heap.size w1 w'
  depthE : ∀ w1, Below W.heap.size W w1 → Calls Tryd.prog 15 #[e] w1 fun ev w' => ev = .returned (.int .i64 (d : Int)) ∧ Below w1.heap.size w1 w'
theorem pair_of {W : World} {l : List (ByteArray × ByteArray)} {n : Int} (h0 : -9223372036854775808 ≤ n) (h1 : n ≤ 9223372036854775807) {e f : Value} {op nm : ByteArray} {s1 : ByteArray} (he : Chain W l (num n) e) (hf : Chain W ((op, nm) :: l) (num n) f) (hl : l.length ≤ 30) (hg : GT W) (ht : PT W)
    (hlen : (chainText ((op, nm) :: l)).length ≤ 1099511627776) (hs : (⟨(chainText ((op, nm) :: l) ++ (errHead ++ Lib.itoa n)).toArray⟩ : ByteArray) = s1) : Pair W e f l.length n s1 ⟨(chainText l ++ (errHead ++ Lib.itoa n)).toArray⟩ op where
  opsF w1 b1 := by
    obtain ⟨bs, hbs⟩ := (hf.below b1).blocks
    refine (ops_chain w1 _ bs _ f (Or.inr ⟨n, rfl⟩) hbs (by simp; omega)).mono ?_
    rintro ev w' ⟨v, rfl, hown, hB⟩
    have hm : min ((op, nm) :: l).length 100 = l.length + 1 := by simp; omega
    rw [hm] at hown
    obtain ⟨a, cap, rfl⟩ := owned_shape hown
    obtain ⟨g, rfl, -, hgl⟩ := owned_addr hown (by omega)
    exact ⟨g, cap, rfl, hgl, (hown.cellAt 0 (by omega)).trans (by simp), hB⟩
  opsE w1 b1 := by
    have h := ops_len w1 l _ e (Or.inr ⟨n, rfl⟩) (he.below b1) (by omega)
    rw [Nat.min_eq_left (by omega)] at h
    exact h
  textF w1 b1 := by
    have h := text_short n h0 h1 w1 _ f (hf.below b1) (by simp; omega) (hg.below b1) (ht.below b1) hlen
    rw [hs] at h
    exact h
  textE w1 b1 := text_short n h0 h1 w1 _ e (he.below b1) (by omega) (hg.below b1) (ht.below b1) (by
    have : (chainText ((op, nm) :: l)).length = (faultText (op, nm)).length + (chainText l).length := by simp [chainText]
    omega)
  numF w1 b1 := num_chain n w1 _ f (hf.below b1) (by simp; omega) (hg.below b1)
  numE w1 b1 := num_chain n w1 _ e (he.below b1) (by omega) (hg.below b1)
  depthF w1 b1 := depth_chain n w1 _ f (hf.below b1) (by simp; omega)
  depthE w1 b1 := depth_chain n w1 _ e (he.below b1) (by omega)

set_option maxHeartbeats 1000000 in
theorem texts_none (op nm : ByteArray) (a0 a1 : Option Addr) (n0 n1 c0 c1 : Nat) (n : Int) (w : World) (hg : GT w) (hk : min (min n0 n1) 30 = 0) :
    Calls Tryd.prog 3 #[.string op, .string nm, .slice a0 n0 c0, .slice a1 n1 c1, .int .i64 n] w fun ev w' => ev = .returned (.bool true) ∧ Below w.heap.size w w' := by
  replace hk := hidden hk
  cases hn : (n == 0)
  all_goals
    go_enter Tryd.func3, Tryd.ntmps3
    go_wp2_with fail
    refine (chain_none _ _ _ _ _ _ _ _ hk.out).mono ?_
    rintro ev w ⟨rfl, rfl⟩
    go_wp2_with fail
    refine (wrap_nil _ _ _).mono ?_
    rintro ev w ⟨rfl, rfl⟩
    go_wp2_with fail
    refine (awake_calls _ hg).mono ?_
    rintro ev w1 ⟨rfl, hB1⟩
    go_wp2
    go_ret
    exact ⟨rfl, hB1⟩

set_option maxHeartbeats 2000000 in
theorem texts_empty (op nm : ByteArray) (a0 a1 : Option Addr) (c0 c1 k : Nat) (os ns : List ByteArray) (n n' : Int) (w : World) (hg : GT w) (ht : PT w) (h0 : StrsAt w a0 os) (h1 : StrsAt w a1 ns) (hk : min (min os.length ns.length) 30 = k) (hkp : 0 < k)
    (hn : (n == 0) = true ∧ n' = 11 ∨ (n == 0) = false ∧ n' = n) (hlo : -9223372036854775808 ≤ n') (hhi : n' ≤ 9223372036854775807) (hE : nm.toList.isEmpty = true) (hlen : (chainText ((op, nm) :: (os.zip ns).take k)).length ≤ 1099511627776) :
    Calls Tryd.prog 3 #[.string op, .string nm, .slice a0 os.length c0, .slice a1 ns.length c1, .int .i64 n] w fun ev w' => ev = .returned (.bool true) ∧ Below w.heap.size w w' := by
  have hn0 : (n' == 0) = false := by
    rcases hn with ⟨_, rfl⟩ | ⟨h, rfl⟩
    · decide
    · exact h
  have hkl := zip_take_len os ns k hk
  have hk30 : k ≤ 30 := by omega
  have hopl : op.size ≤ 1099511627776 ∧ nm.size ≤ 1099511627776 := by
    have e1 : (chainText ((op, nm) :: (os.zip ns).take k)).length = (faultText (op, nm)).length + (chainText ((os.zip ns).take k)).length := by simp [chainText]
    have e2 : (faultText (op, nm)).length = op.data.size + 0 + 2 := by simp [faultText, hE]
    have e3 : op.data.size = op.size := rfl
    have e4 : nm.data.size = nm.size := rfl
    have e5 : nm.size = 0 := by
      rw [ByteArray.toList_eq] at hE
      have : nm.data.toList = [] := List.isEmpty_iff.1 hE
      have h := congrArg List.length this
      simpa using h
    omega
  obtain ⟨hop, hnm⟩ := hopl
  have hCh := hidden (chain_some n' hn0 w a0 a1 c0 c1 k os ns h0 h1 hk hkp)
  obtain ⟨s2, hs2⟩ : ∃ s2 : ByteArray, s2 = ⟨(chainText ((os.zip ns).take k) ++ (errHead ++ Lib.itoa n')).toArray⟩ := ⟨_, rfl⟩
  have hs2l : s2.size ≤ 2199023255552 := by
    have e1 : (chainText ((op, nm) :: (os.zip ns).take k)).length = (faultText (op, nm)).length + (chainText ((os.zip ns).take k)).length := by simp [chainText]
    have hi := Lib.itoa_length_le n' hlo hhi
    have e5 : errHead.length = 6 := rfl
    have e6 : s2.size = (chainText ((os.zip ns).take k)).length + (errHead.length + (Lib.itoa n').length) := by rw [hs2]; simp [ByteArray.size]
    omega
  have hpair : ∀ (w1 : World) (b : Nat), Below w.heap.size w w1 → Chain w1 ((os.zip ns).take k) (num n') (flt b) → Pair (w1.alloc (fcells op nm (flt b))) (flt b) (flt w1.heap.size) k n' (op ++ ⟨#[58, 32]⟩ ++ s2) s2 op := fun w1 b hB hc => by
    have hB2 : Below w1.heap.size w1 (w1.alloc (fcells op nm (flt b))) := (Below.refl _ _).alloc (Nat.le_refl _) _
    have h := pair_of (l := (os.zip ns).take k) hlo hhi (op := op) (nm := nm) (s1 := op ++ ⟨#[58, 32]⟩ ++ s2) (hc.below hB2) (hc.alloc op nm) (by omega) ((hg.below hB).below hB2) ((ht.below hB).below hB2) hlen (by
      have e : chainText ((op, nm) :: (os.zip ns).take k) ++ (errHead ++ Lib.itoa n') = faultText (op, nm) ++ (chainText ((os.zip ns).take k) ++ (errHead ++ Lib.itoa n')) := by simp [chainText]
      rw [e, head_empty op nm hE, ← hs2])
    rw [← hs2, hkl] at h
    exact h
  replace hpair := hidden hpair
  replace hs2 := hidden hs2
  have hgH := hidden hg
  clear h0 h1 ht hg hlo hhi hlen hkl hn0
  rcases hn with ⟨hn, rfl⟩ | ⟨hn, rfl⟩
  all_goals
    replace hk := hidden hk
    go_enter Tryd.func3, Tryd.ntmps3
    go_wp2_with fail
    refine (hCh.out).mono ?_
    rintro ev w1 ⟨b, rfl, hc1, hB1⟩
    have hs1 := hB1.size
    have P := hidden (hpair.out w1 b hB1 hc1)
    have hB2 : Below w.heap.size w (w1.alloc (fcells op nm (flt b))) := hB1.alloc hs1 _
    have hs2' : w.heap.size ≤ (w1.alloc (fcells op nm (flt b))).heap.size := hB2.size
    clear hc1
    go_wp2_with fail
    refine (wrap_some op nm _ _ _).mono ?_
    rintro ev w' ⟨rfl, rfl⟩
    go_wp2_with fail
    refine (P.out.opsF _ (Below.refl _ _)).mono ?_
    rintro ev w3 ⟨g, cg, rfl, hgl, hcg, hB3⟩
    have hs3 := hB3.size
    go_wp2_with fail
    refine (P.out.opsE _ hB3).mono ?_
    rintro ev w4 ⟨a4, c4, rfl, hB4⟩
    replace hcg := (hB4.cell (p := ⟨g, 0, none⟩) hgl).trans hcg
    replace hgl := Nat.lt_of_lt_of_le hgl hB4.size
    replace hB4 := hB3.trans (hB4.mono hs3)
    have hs4 := hB4.size
    clear hB3 hs3
    go_wp2_with fail
    refine (P.out.textF _ hB4).mono ?_
    rintro ev w5 ⟨rfl, hB5⟩
    replace hcg := (hB5.cell (p := ⟨g, 0, none⟩) hgl).trans hcg
    replace hgl := Nat.lt_of_lt_of_le hgl hB5.size
    replace hB5 := hB4.trans (hB5.mono hs4)
    have hs5 := hB5.size
    clear hB4 hs4
    go_wp2_with fail
    refine (P.out.textE _ hB5).mono ?_
    rintro ev w6 ⟨rfl, hB6⟩
    replace hcg := (hB6.cell (p := ⟨g, 0, none⟩) hgl).trans hcg
    replace hgl := Nat.lt_of_lt_of_le hgl hB6.size
    replace hB6 := hB5.trans (hB6.mono hs5)
    have hs6 := hB6.size
    clear hB5 hs5
    go_wp2_with fail
    refine (P.out.numF _ hB6).mono ?_
    rintro ev w7 ⟨rfl, hB7⟩
    replace hcg := (hB7.cell (p := ⟨g, 0, none⟩) hgl).trans hcg
    replace hgl := Nat.lt_of_lt_of_le hgl hB7.size
    replace hB7 := hB6.trans (hB7.mono hs6)
    have hs7 := hB7.size
    clear hB6 hs6
    go_wp2_with fail
    refine (P.out.numE _ hB7).mono ?_
    rintro ev w8 ⟨rfl, hB8⟩
    replace hcg := (hB8.cell (p := ⟨g, 0, none⟩) hgl).trans hcg
    replace hgl := Nat.lt_of_lt_of_le hgl hB8.size
    replace hB8 := hB7.trans (hB8.mono hs7)
    have hs8 := hB8.size
    clear hB7 hs7
    go_wp2_with fail
    refine (P.out.depthF _ hB8).mono ?_
    rintro ev w9 ⟨rfl, hB9⟩
    replace hcg := (hB9.cell (p := ⟨g, 0, none⟩) hgl).trans hcg
    replace hgl := Nat.lt_of_lt_of_le hgl hB9.size
    replace hB9 := hB8.trans (hB9.mono hs8)
    have hs9 := hB9.size
    clear hB8 hs8
    go_wp2_with fail
    refine (P.out.depthE _ hB9).mono ?_
    rintro ev w10 ⟨rfl, hB10⟩
    replace hcg := (hB10.cell (p := ⟨g, 0, none⟩) hgl).trans hcg
    replace hB10 := hB9.trans (hB10.mono hs9)
    have hs10 := hB10.size
    clear hB9 hs9 hgl
    go_wp2_with fail
    refine (awake_calls w10 ((hgH.out.below hB2).below hB10)).mono ?_
    rintro ev w11 ⟨rfl, hB11⟩
    replace hB11 := hB10.trans (hB11.mono hs10)
    go_wp2
    go_ret
    exact ⟨rfl, hB2.trans (hB11.mono hs2')⟩

set_option maxHeartbeats 2000000 in
theorem texts_named (op nm : ByteArray) (a0 a1 : Option Addr) (c0 c1 k : Nat) (os ns : List ByteArray) (n n' : Int) (w : World) (hg : GT w) (ht : PT w) (h0 : StrsAt w a0 os) (h1 : StrsAt w a1 ns) (hk : min (min os.length ns.length) 30 = k) (hkp : 0 < k)
    (hn : (n == 0) = true ∧ n' = 11 ∨ (n == 0) = false ∧ n' = n) (hlo : -9223372036854775808 ≤ n') (hhi : n' ≤ 9223372036854775807) (hE : nm.toList.isEmpty = false) (hlen : (chainText ((op, nm) :: (os.zip ns).take k)).length ≤ 1099511627776) :
    Calls Tryd.prog 3 #[.string op, .string nm, .slice a0 os.length c0, .slice a1 ns.length c1, .int .i64 n] w fun ev w' => ev = .returned (.bool true) ∧ Below w.heap.size w w' := by
  have hn0 : (n' == 0) = false := by
    rcases hn with ⟨_, rfl⟩ | ⟨h, rfl⟩
    · decide
    · exact h
  have hkl := zip_take_len os ns k hk
  have hk30 : k ≤ 30 := by omega
  have hopl : op.size ≤ 1099511627776 ∧ nm.size ≤ 1099511627776 := by
    have e1 : (chainText ((op, nm) :: (os.zip ns).take k)).length = (faultText (op, nm)).length + (chainText ((os.zip ns).take k)).length := by simp [chainText]
    have e2 : (faultText (op, nm)).length = op.data.size + (1 + nm.data.size) + 2 := by simp [faultText, hE]; omega
    have e3 : op.data.size = op.size := rfl
    have e4 : nm.data.size = nm.size := rfl
    omega
  obtain ⟨hop, hnm⟩ := hopl
  have hCh := hidden (chain_some n' hn0 w a0 a1 c0 c1 k os ns h0 h1 hk hkp)
  obtain ⟨s2, hs2⟩ : ∃ s2 : ByteArray, s2 = ⟨(chainText ((os.zip ns).take k) ++ (errHead ++ Lib.itoa n')).toArray⟩ := ⟨_, rfl⟩
  have hs2l : s2.size ≤ 2199023255552 := by
    have e1 : (chainText ((op, nm) :: (os.zip ns).take k)).length = (faultText (op, nm)).length + (chainText ((os.zip ns).take k)).length := by simp [chainText]
    have hi := Lib.itoa_length_le n' hlo hhi
    have e5 : errHead.length = 6 := rfl
    have e6 : s2.size = (chainText ((os.zip ns).take k)).length + (errHead.length + (Lib.itoa n').length) := by rw [hs2]; simp [ByteArray.size]
    omega
  have hpair : ∀ (w1 : World) (b : Nat), Below w.heap.size w w1 → Chain w1 ((os.zip ns).take k) (num n') (flt b) → Pair (w1.alloc (fcells op nm (flt b))) (flt b) (flt w1.heap.size) k n' (op ++ ⟨#[32]⟩ ++ nm ++ ⟨#[58, 32]⟩ ++ s2) s2 op := fun w1 b hB hc => by
    have hB2 : Below w1.heap.size w1 (w1.alloc (fcells op nm (flt b))) := (Below.refl _ _).alloc (Nat.le_refl _) _
    have h := pair_of (l := (os.zip ns).take k) hlo hhi (op := op) (nm := nm) (s1 := op ++ ⟨#[32]⟩ ++ nm ++ ⟨#[58, 32]⟩ ++ s2) (hc.below hB2) (hc.alloc op nm) (by omega) ((hg.below hB).below hB2) ((ht.below hB).below hB2) hlen (by
      have e : chainText ((op, nm) :: (os.zip ns).take k) ++ (errHead ++ Lib.itoa n') = faultText (op, nm) ++ (chainText ((os.zip ns).take k) ++ (errHead ++ Lib.itoa n')) := by simp [chainText]
      rw [e, head_named op nm hE, ← hs2])
    rw [← hs2, hkl] at h
    exact h
  replace hpair := hidden hpair
  replace hs2 := hidden hs2
  have hgH := hidden hg
  clear h0 h1 ht hg hlo hhi hlen hkl hn0
  have hE' : (!nm.toList.isEmpty) = true := by rw [hE]; rfl
  rcases hn with ⟨hn, rfl⟩ | ⟨hn, rfl⟩
  all_goals
    replace hk := hidden hk
    go_enter Tryd.func3, Tryd.ntmps3
    go_wp2_with fail
    refine (hCh.out).mono ?_
    rintro ev w1 ⟨b, rfl, hc1, hB1⟩
    have hs1 := hB1.size
    have P := hidden (hpair.out w1 b hB1 hc1)
    have hB2 : Below w.heap.size w (w1.alloc (fcells op nm (flt b))) := hB1.alloc hs1 _
    have hs2' : w.heap.size ≤ (w1.alloc (fcells op nm (flt b))).heap.size := hB2.size
    clear hc1
    go_wp2_with fail
    refine (wrap_some op nm _ _ _).mono ?_
    rintro ev w' ⟨rfl, rfl⟩
    go_wp2_with fail
    refine (P.out.opsF _ (Below.refl _ _)).mono ?_
    rintro ev w3 ⟨g, cg, rfl, hgl, hcg, hB3⟩
    have hs3 := hB3.size
    go_wp2_with fail
    refine (P.out.opsE _ hB3).mono ?_
    rintro ev w4 ⟨a4, c4, rfl, hB4⟩
    replace hcg := (hB4.cell (p := ⟨g, 0, none⟩) hgl).trans hcg
    replace hgl := Nat.lt_of_lt_of_le hgl hB4.size
    replace hB4 := hB3.trans (hB4.mono hs3)
    have hs4 := hB4.size
    clear hB3 hs3
    go_wp2_with fail
    refine (P.out.textF _ hB4).mono ?_
    rintro ev w5 ⟨rfl, hB5⟩
    replace hcg := (hB5.cell (p := ⟨g, 0, none⟩) hgl).trans hcg
    replace hgl := Nat.lt_of_lt_of_le hgl hB5.size
    replace hB5 := hB4.trans (hB5.mono hs4)
    have hs5 := hB5.size
    clear hB4 hs4
    go_wp2_with fail
    refine (P.out.textE _ hB5).mono ?_
    rintro ev w6 ⟨rfl, hB6⟩
    replace hcg := (hB6.cell (p := ⟨g, 0, none⟩) hgl).trans hcg
    replace hgl := Nat.lt_of_lt_of_le hgl hB6.size
    replace hB6 := hB5.trans (hB6.mono hs5)
    have hs6 := hB6.size
    clear hB5 hs5
    go_wp2_with fail
    refine (P.out.numF _ hB6).mono ?_
    rintro ev w7 ⟨rfl, hB7⟩
    replace hcg := (hB7.cell (p := ⟨g, 0, none⟩) hgl).trans hcg
    replace hgl := Nat.lt_of_lt_of_le hgl hB7.size
    replace hB7 := hB6.trans (hB7.mono hs6)
    have hs7 := hB7.size
    clear hB6 hs6
    go_wp2_with fail
    refine (P.out.numE _ hB7).mono ?_
    rintro ev w8 ⟨rfl, hB8⟩
    replace hcg := (hB8.cell (p := ⟨g, 0, none⟩) hgl).trans hcg
    replace hgl := Nat.lt_of_lt_of_le hgl hB8.size
    replace hB8 := hB7.trans (hB8.mono hs7)
    have hs8 := hB8.size
    clear hB7 hs7
    go_wp2_with fail
    refine (P.out.depthF _ hB8).mono ?_
    rintro ev w9 ⟨rfl, hB9⟩
    replace hcg := (hB9.cell (p := ⟨g, 0, none⟩) hgl).trans hcg
    replace hgl := Nat.lt_of_lt_of_le hgl hB9.size
    replace hB9 := hB8.trans (hB9.mono hs8)
    have hs9 := hB9.size
    clear hB8 hs8
    go_wp2_with fail
    refine (P.out.depthE _ hB9).mono ?_
    rintro ev w10 ⟨rfl, hB10⟩
    replace hcg := (hB10.cell (p := ⟨g, 0, none⟩) hgl).trans hcg
    replace hB10 := hB9.trans (hB10.mono hs9)
    have hs10 := hB10.size
    clear hB9 hs9 hgl
    go_wp2_with fail
    refine (awake_calls w10 ((hgH.out.below hB2).below hB10)).mono ?_
    rintro ev w11 ⟨rfl, hB11⟩
    replace hB11 := hB10.trans (hB11.mono hs10)
    go_wp2
    go_ret
    exact ⟨rfl, hB2.trans (hB11.mono hs2')⟩

theorem texts_calls (op nm : ByteArray) (a0 a1 : Option Addr) (c0 c1 : Nat) (os ns : List ByteArray) (n : Int) (w : World) (hg : GT w) (ht : PT w) (h0 : StrsAt w a0 os) (h1 : StrsAt w a1 ns) (hlo : -9223372036854775808 ≤ n) (hhi : n ≤ 9223372036854775807)
    (hlen : (chainText ((op, nm) :: (os.zip ns).take (min (min os.length ns.length) 30))).length ≤ 1099511627776) :
    Calls Tryd.prog 3 #[.string op, .string nm, .slice a0 os.length c0, .slice a1 ns.length c1, .int .i64 n] w fun ev w' => ev = .returned (.bool true) ∧ Below w.heap.size w w' := by
  by_cases hk : min (min os.length ns.length) 30 = 0
  · exact texts_none op nm a0 a1 _ _ c0 c1 n w hg hk
  · obtain ⟨n', hn, hlo', hhi'⟩ : ∃ n' : Int, ((n == 0) = true ∧ n' = 11 ∨ (n == 0) = false ∧ n' = n) ∧ -9223372036854775808 ≤ n' ∧ n' ≤ 9223372036854775807 := by
      cases hz : (n == 0)
      · exact ⟨n, Or.inr ⟨rfl, rfl⟩, hlo, hhi⟩
      · exact ⟨11, Or.inl ⟨rfl, rfl⟩, by omega, by omega⟩
    cases hE : nm.toList.isEmpty
    · exact texts_named op nm a0 a1 c0 c1 _ os ns n n' w hg ht h0 h1 rfl (by omega) hn hlo' hhi' hE hlen
    · exact texts_empty op nm a0 a1 c0 c1 _ os ns n n' w hg ht h0 h1 rfl (by omega) hn hlo' hhi' hE hlen
end Go.Proofs.YtiaplgdplenedaaDoor
