/- FaultChains, walked, where there is an error. -/
import Derived.Test.YtiaplgdplenedaaDoorChz
import Derived.Deep.QuietTactic
import Derived.BigQuiet
import Derived.Deep.DeepCutAuto
import Derived.Deep.RegionHeld3
namespace Go.Proofs.YtiaplgdplenedaaDoor
open Go.RowKit Go.Extern.Stop Go.Stop Go.Extern
set_option maxRecDepth 100000

/-- The four rows of texts that FaultChains reads: its arguments, and what Ops and Names answered. -/
structure Four (W : World) (b0 o0 b1 o1 ga gb k : Nat) (os ns : List ByteArray) : Prop where
  l0 : b0 < W.heap.size
  l1 : b1 < W.heap.size
  l2 : ga < W.heap.size
  l3 : gb < W.heap.size
  c0 : ∀ j s, j < k → os[j]? = some s → W.cell? ⟨b0, o0 + j, none⟩ = some (.string s)
  c1 : ∀ j s, j < k → ns[j]? = some s → W.cell? ⟨b1, o1 + j, none⟩ = some (.string s)
  c2 : ∀ j s, j < k → os[j]? = some s → W.cell? ⟨ga, j, none⟩ = some (.string s)
  c3 : ∀ j s, j < k → ns[j]? = some s → W.cell? ⟨gb, j, none⟩ = some (.string s)
theorem Four.below {W W' : World} {b0 o0 b1 o1 ga gb k : Nat} {os ns : List ByteArray} (h : Four W b0 o0 b1 o1 ga gb k os ns) (hb : Below W.heap.size W W') : Four W' b0 o0 b1 o1 ga gb k os ns where
  l0 := Nat.lt_of_lt_of_le h.l0 hb.size
  l1 := Nat.lt_of_lt_of_le h.l1 hb.size
  l2 := Nat.lt_of_lt_of_le h.l2 hb.size
  l3 := Nat.lt_of_lt_of_le h.l3 hb.size
  c0 j s hj hs := (hb.cell (p := ⟨b0, o0 + j, none⟩) h.l0).trans (h.c0 j s hj hs)
  c1 j s hj hs := (hb.cell (p := ⟨b1, o1 + j, none⟩) h.l1).trans (h.c1 j s hj hs)
  c2 j s hj hs := (hb.cell (p := ⟨ga, j, none⟩) h.l2).trans (h.c2 j s hj hs)
  c3 j s hj hs := (hb.cell (p := ⟨gb, j, none⟩) h.l3).trans (h.c3 j s hj hs)

theorem zip_fst {os ns : List ByteArray} {k j : Nat} {s : ByteArray} (hk : min (min os.length ns.length) 30 = k) (hj : j < k) (hs : os[j]? = some s) : (opsOf ((os.zip ns).take k))[j]? = some (.string s) := by
  obtain ⟨t, ht⟩ : ∃ t, ns[j]? = some t := ⟨_, List.getElem?_eq_getElem (by omega)⟩
  have hz : (os.zip ns)[j]? = some (s, t) := by simp [List.getElem?_zip_eq_some, hs, ht]
  rw [List.getElem?_map, List.getElem?_take, if_pos hj, hz]
  rfl
theorem zip_snd {os ns : List ByteArray} {k j : Nat} {s : ByteArray} (hk : min (min os.length ns.length) 30 = k) (hj : j < k) (hs : ns[j]? = some s) : (namesOf ((os.zip ns).take k))[j]? = some (.string s) := by
  obtain ⟨t, ht⟩ : ∃ t, os[j]? = some t := ⟨_, List.getElem?_eq_getElem (by omega)⟩
  have hz : (os.zip ns)[j]? = some (t, s) := by simp [List.getElem?_zip_eq_some, hs, ht]
  rw [List.getElem?_map, List.getElem?_take, if_pos hj, hz]
  rfl
/-- Ops and Names of the chain, with the cells of their answers. -/
theorem ops_cells (n : Int) (w : World) (os ns : List ByteArray) (k : Nat) (e : Value) (hk : min (min os.length ns.length) 30 = k) (hkp : 0 < k) (hc : Chain w ((os.zip ns).take k) (num n) e) :
    Calls Tryd.prog 12 #[e] w fun ev w' => ∃ g cap, ev = .returned (.slice (some ⟨g, 0, none⟩) k cap) ∧ g < w'.heap.size ∧ (∀ j s, j < k → os[j]? = some s → w'.cell? ⟨g, j, none⟩ = some (.string s)) ∧ Below w.heap.size w w' := by
  have hl := zip_take_len os ns k hk
  obtain ⟨bs, hbs⟩ := hc.blocks
  refine (ops_chain w _ bs _ e (Or.inr ⟨n, rfl⟩) hbs (by omega)).mono ?_
  rintro ev w' ⟨v, rfl, hown, hB⟩
  have hm : min ((os.zip ns).take k).length 100 = k := by omega
  rw [hm, List.take_of_length_le (by omega)] at hown
  obtain ⟨a, cap, rfl⟩ := owned_shape hown
  obtain ⟨g, rfl, -, hgl⟩ := owned_addr hown hkp
  exact ⟨g, cap, rfl, hgl, fun j s hj hs => (hown.cellAt j (by omega)).trans (zip_fst hk hj hs), hB⟩
theorem names_cells (n : Int) (w : World) (os ns : List ByteArray) (k : Nat) (e : Value) (hk : min (min os.length ns.length) 30 = k) (hkp : 0 < k) (hc : Chain w ((os.zip ns).take k) (num n) e) :
    Calls Tryd.prog 17 #[e] w fun ev w' => ∃ g cap, ev = .returned (.slice (some ⟨g, 0, none⟩) k cap) ∧ g < w'.heap.size ∧ (∀ j s, j < k → ns[j]? = some s → w'.cell? ⟨g, j, none⟩ = some (.string s)) ∧ Below w.heap.size w w' := by
  have hl := zip_take_len os ns k hk
  obtain ⟨bs, hbs⟩ := hc.blocks
  refine (names_chain w _ bs _ e (Or.inr ⟨n, rfl⟩) hbs (by omega)).mono ?_
  rintro ev w' ⟨v, rfl, hown, hB⟩
  have hm : min ((os.zip ns).take k).length 100 = k := by omega
  rw [hm, List.take_of_length_le (by omega)] at hown
  obtain ⟨a, cap, rfl⟩ := owned_shape hown
  obtain ⟨g, rfl, -, hgl⟩ := owned_addr hown hkp
  exact ⟨g, cap, rfl, hgl, fun j s hj hs => (hown.cellAt j (by omega)).trans (zip_snd hk hj hs), hB⟩

/-- What a memory behind W3 keeps while FaultChains asks. -/
abbrev Keeps (W : World) (b0 o0 b1 o1 : Nat) (s0 t0 : ByteArray) (w' : World) : Prop := w'.cell? ⟨b0, o0, none⟩ = some (.string s0) ∧ w'.cell? ⟨b1, o1, none⟩ = some (.string t0) ∧ Below W.heap.size W w'

theorem chain_step {os ns : List ByteArray} {s u : ByteArray} {j k : Nat} (hs : os[j]? = some s) (hu : ns[j]? = some u) (_ : j < k) : chainText ((os.zip ns).take (j + 1)) = chainText ((os.zip ns).take j) ++ faultText (s, u) := by
  have hz : (os.zip ns)[j]? = some (s, u) := by simp [List.getElem?_zip_eq_some, hs, hu]
  obtain ⟨hlt, he⟩ := List.getElem?_eq_some_iff.1 hz
  rw [take_snoc _ j hlt, he, chainText_snoc]
theorem faultText_ge (p : ByteArray × ByteArray) : p.1.size ≤ (faultText p).length ∧ p.2.size ≤ (faultText p).length := by
  have h1 : p.1.data.toList.length = p.1.size := by simp
  have h2 : p.2.data.toList.length = p.2.size := by simp
  unfold faultText
  split
  · rename_i h
    have h3 : p.2.size = 0 := by
      rw [ByteArray.toList_eq] at h
      have h4 := congrArg List.length (List.isEmpty_iff.1 h)
      simpa using h4
    simp only [List.length_append, List.length_cons, List.length_nil, h1]
    omega
  · simp only [List.length_append, List.length_cons, List.length_nil, h1, h2]
    omega

set_option maxHeartbeats 2000000 in
theorem chains_some (a0 a1 : Option Addr) (c0 c1 k : Nat) (os ns : List ByteArray) (n : Int) (hn : (n == 0) = false) (hlo : -9223372036854775808 ≤ n) (hhi : n ≤ 9223372036854775807) (w : World) (hg : GT w) (ht : PT w) (h0 : StrsAt w a0 os) (h1 : StrsAt w a1 ns) (hk : min (min os.length ns.length) 30 = k) (hkp : 0 < k)
    (hlen : (chainText ((os.zip ns).take k)).length ≤ 1099511627776) :
    Calls Tryd.prog 6 #[.slice a0 os.length c0, .slice a1 ns.length c1, .int .i64 n] w fun ev w' => ev = .returned (.bool true) ∧ Below w.heap.size w w' := by
  have hm := Tryd.min3 os.length ns.length k hk
  have hC := hidden (chain_some n hn w a0 a1 c0 c1 k os ns h0 h1 hk hkp)
  have hk30 : (k : Int) ≤ 30 := by omega
  have hkz : ((k : Int) == 0) = false := by simp; omega
  have hk0 : (0 : Int) < (os.length : Int) := by omega
  have hk1 : (0 : Int) < (ns.length : Int) := by omega
  have hkO : k ≤ os.length := by omega
  have hkN : k ≤ ns.length := by omega
  rcases h0 with h0 | ⟨b0, o0, rfl, hb0, h0⟩
  · subst h0; simp at hk0
  rcases h1 with h1 | ⟨b1, o1, rfl, hb1, h1⟩
  · subst h1; simp at hk1
  obtain ⟨s0, hs0⟩ : ∃ s, os[0]? = some s := ⟨_, List.getElem?_eq_getElem (by omega)⟩
  obtain ⟨t0, ht0⟩ : ∃ s, ns[0]? = some s := ⟨_, List.getElem?_eq_getElem (by omega)⟩
  have hl0 : (os.zip ns).take k = (s0, t0) :: ((os.zip ns).take k).drop 1 := by
    have h := zip_step (k := k) (j := 1) hs0 ht0 (by omega) (by omega)
    simpa using h
  have hkl := hidden (zip_take_len os ns k hk)
  replace hk := hidden hk
  replace h0 := hidden h0
  replace h1 := hidden h1
  replace hl0 := hidden hl0
  replace hs0 := hidden hs0
  replace ht0 := hidden ht0
  replace hg := hidden hg
  replace ht := hidden ht
  replace hlen := hidden hlen
  go_enter Tryd.func6, Tryd.ntmps6
  go_wp2_with fail
  refine (hC.out).mono ?_
  rintro ev w1 ⟨b, rfl, hc1, hB1⟩
  have hs1 := hB1.size
  replace hc1 := hidden hc1
  go_wp2_with fail
  refine (ops_cells n w1 os ns k _ hk.out hkp hc1.out).mono ?_
  rintro ev w2 ⟨ga, ca, rfl, hla, hca, hB2⟩
  have hs2 := hB2.size
  replace hca := hidden hca
  go_wp2_with fail
  refine (names_cells n w2 os ns k _ hk.out hkp (hc1.out.below hB2)).mono ?_
  rintro ev w3 ⟨gb, cb, rfl, hlb, hcb, hB3⟩
  have hs3 := hB3.size
  have hF : Four w3 b0 o0 b1 o1 ga gb k os ns := ⟨by omega, by omega, by omega, hlb,
    fun j s _ hs => (hB3.cell (p := ⟨b0, o0 + j, none⟩) (by show b0 < _; omega)).trans ((hB2.cell (p := ⟨b0, o0 + j, none⟩) (by show b0 < _; omega)).trans ((hB1.cell (p := ⟨b0, o0 + j, none⟩) hb0).trans (h0.out j s hs))),
    fun j s _ hs => (hB3.cell (p := ⟨b1, o1 + j, none⟩) (by show b1 < _; omega)).trans ((hB2.cell (p := ⟨b1, o1 + j, none⟩) (by show b1 < _; omega)).trans ((hB1.cell (p := ⟨b1, o1 + j, none⟩) hb1).trans (h1.out j s hs))),
    fun j s hj hs => (hB3.cell (p := ⟨ga, j, none⟩) hla).trans (hca.out j s hj hs), hcb⟩
  have hc3 := (hc1.out.below hB2).below hB3
  replace hB3 := hB1.trans ((hB2.mono hs1).trans (hB3.mono (by omega)))
  have hs3' := hB3.size
  have hg3 := hg.out.below hB3
  have ht3 := ht.out.below hB3
  have kD : ∀ w1, Below w3.heap.size w3 w1 → Calls Tryd.prog 15 #[flt b] w1 fun ev w' => ev = .returned (.int .i64 (k : Int)) ∧ Below w3.heap.size w3 w' := fun w1 b1 => by
    have h := depth_chain n w1 _ _ (hc3.below b1) (by have := hkl.out; omega)
    rw [hkl.out] at h
    exact h.mono fun _ _ h => ⟨h.1, b1.trans (h.2.mono b1.size)⟩
  have kM : ∀ w1, Below w3.heap.size w3 w1 → Calls Tryd.prog 14 #[flt b] w1 fun ev w' => ev = .returned (.int .i64 n) ∧ Below w3.heap.size w3 w' := fun w1 b1 =>
    (num_chain n w1 _ _ (hc3.below b1) (by have := hkl.out; omega) (hg3.below b1)).mono fun _ _ h => ⟨h.1, b1.trans (h.2.mono b1.size)⟩
  have kI : ∀ w1, Below w3.heap.size w3 w1 → Calls Tryd.prog 18 #[flt b, .string s0, .string t0, .int .i64 n] w1 fun ev w' => ev = .returned (.bool true) ∧ Below w3.heap.size w3 w' := fun w1 b1 => by
    have hc4 := hc3.below b1
    rw [hl0.out] at hc4
    exact (law_is n hn w1 s0 t0 _ _ hc4 (hg3.below b1)).mono fun _ _ h => ⟨h.1, b1.trans (h.2.mono b1.size)⟩
  have q0 : ∀ w1, Below w3.heap.size w3 w1 → w1.cell? ⟨b0, o0, none⟩ = some (.string s0) := fun w1 h1 => by simpa using (hF.below h1).c0 0 s0 hkp hs0.out
  have q1 : ∀ w1, Below w3.heap.size w3 w1 → w1.cell? ⟨b1, o1, none⟩ = some (.string t0) := fun w1 h1 => by simpa using (hF.below h1).c1 0 t0 hkp ht0.out
  have kD' : ∀ w1, Keeps w3 b0 o0 b1 o1 s0 t0 w1 → Calls Tryd.prog 15 #[flt b] w1 fun ev w' => ev = .returned (.int .i64 (k : Int)) ∧ Keeps w3 b0 o0 b1 o1 s0 t0 w' := fun w1 h => (kD w1 h.2.2).mono fun _ _ h => ⟨h.1, q0 _ h.2, q1 _ h.2, h.2⟩
  have kM' : ∀ w1, Keeps w3 b0 o0 b1 o1 s0 t0 w1 → Calls Tryd.prog 14 #[flt b] w1 fun ev w' => ev = .returned (.int .i64 n) ∧ Keeps w3 b0 o0 b1 o1 s0 t0 w' := fun w1 h => (kM w1 h.2.2).mono fun _ _ h => ⟨h.1, q0 _ h.2, q1 _ h.2, h.2⟩
  have kI' : ∀ w1, Keeps w3 b0 o0 b1 o1 s0 t0 w1 → Calls Tryd.prog 18 #[flt b, .string s0, .string t0, .int .i64 n] w1 fun ev w' => ev = .returned (.bool true) ∧ Keeps w3 b0 o0 b1 o1 s0 t0 w' := fun w1 h => (kI w1 h.2.2).mono fun _ _ h => ⟨h.1, q0 _ h.2, q1 _ h.2, h.2⟩
  have hS0 : Keeps w3 b0 o0 b1 o1 s0 t0 w3.drew := ⟨q0 _ (Below.refl _ _).drew, q1 _ (Below.refl _ _).drew, (Below.refl _ _).drew⟩
  replace kD := hidden kD'
  replace kM := hidden kM'
  replace kI := hidden kI'
  clear kD' kM' kI'
  replace q0 := hidden q0
  replace q1 := hidden q1
  replace hF := hidden hF
  replace hc3 := hidden hc3
  replace hg3 := hidden hg3
  replace ht3 := hidden ht3
  clear hca hcb hlb hla hB2 hB1 hC h0 h1 hb0 hb1
  go_upto_region 6 with fail
  go_cut [91] (fun c wx => c = .bool false ∧ Below w3.heap.size w3 wx)
  case first =>
    clear hF hc3 hg3 ht3 hB3 hs3' hc1 hlen hl0 hs0 ht0 hg ht hk hkl hm q0 q1 hs1 hs2 hs3 hlo hhi hkO hkN
    have hne0 : os ≠ [] := by intro h; subst h; simp at hk0
    have hne1 : ns ≠ [] := by intro h; subst h; simp at hk1
    have hp0 : 0 < os.length := by omega
    have hp1 : 0 < ns.length := by omega
    go_region_held3 (fun w' => w'.cell? ⟨b0, o0, none⟩ = some (.string s0) ∧ w'.cell? ⟨b1, o1, none⟩ = some (.string t0) ∧ Below w3.heap.size w3 w') (first | exact hS0 | assumption)
      (first
        | (go_at_call 15; refine (kD.out _ hS0).mono ?_; rintro ev w4 ⟨rfl, hS4⟩)
        | (go_at_call 14; refine (kM.out _ hS4).mono ?_; rintro ev w5 ⟨rfl, hS5⟩)
        | (go_at_call 18; refine (kI.out _ hS5).mono ?_; rintro ev w6 ⟨rfl, hS6⟩))
    go_wp2_with fail
    go_meet
    case rel => exact ⟨rfl, hS6.2.2⟩
  case rest =>
    obtain ⟨rfl, hBc⟩ := hcut
    clear hS0 kD kM kI q0 q1 hs1 hs2 hs3 hm hg ht hc1 hl0 hs0 ht0
    have hdone : Hid (∀ (W : World), Below w3.heap.size w3 W → ∀ (wk es : ByteArray), wk = ⟨(chainText ((os.zip ns).take k)).toArray⟩ → es = ⟨(errHead ++ Lib.itoa n).toArray⟩ → Calls Tryd.prog 13 #[flt b] W fun ev w' => ev = .returned (.string (wk ++ es)) ∧ Below w3.heap.size w3 w') := fun W hBW wk es hwk hes => by
      have h := text_short n hlo hhi W _ _ (hc3.out.below hBW) (by have := hkl.out; omega) (hg3.out.below hBW) (ht3.out.below hBW) hlen.out
      rw [hwk, hes, cat_bytes]
      exact h.mono fun _ _ h => ⟨h.1, hBW.trans (h.2.mono hBW.size)⟩
    have herr : Hid (∀ (W : World), Below w3.heap.size w3 W → ∀ es : ByteArray, es = ⟨(errHead ++ Lib.itoa n).toArray⟩ → Calls Tryd.prog 19 #[.int .i64 n] W fun ev w' => ev = .returned (.string es) ∧ Below w3.heap.size w3 w') := fun W hBW es hes => by
      rw [hes]
      exact (errno_any n hlo hhi W (ht3.out.below hBW)).mono fun _ _ h => ⟨h.1, hBW.trans (h.2.mono hBW.size)⟩
    have hes : Hid ((⟨(errHead ++ Lib.itoa n).toArray⟩ : ByteArray).size ≤ 27) := by
      have hi := Lib.itoa_length_le n hlo hhi
      have e5 : errHead.length = 6 := rfl
      have e6 : (⟨(errHead ++ Lib.itoa n).toArray⟩ : ByteArray).size = errHead.length + (Lib.itoa n).length := by simp [ByteArray.size]
      show _ ≤ _
      omega
    clear hlo hhi
    go_wp2_with fail
    go_loopg [11, 12] k (fun kk v i wr => Below w3.heap.size w3 wr ∧ ∃ j : Nat, j ≤ k ∧ (∃ q : Int, i = .int .i64 q ∧ q = (j : Int)) ∧ kk = k - j ∧ ∃ wj : ByteArray, v = .string wj ∧ wj = ⟨(chainText ((os.zip ns).take j)).toArray⟩)
    case atStart => exact ⟨hBc, 0, Nat.zero_le _, ⟨0, rfl, rfl⟩, by simp, _, rfl, by simp [chainText]⟩
    case round =>
      obtain ⟨hB, j, hjk, ⟨q, rfl, hq⟩, hkk, wj, rfl, hwj⟩ := hrel
      have hq0 : 0 ≤ q := by omega
      have hq30 : q ≤ 30 := by omega
      have hwl : wj.size ≤ 1099511627776 := by
        have h1 := chainText_le (os.zip ns) j k hjk
        have h2 : wj.size = (chainText ((os.zip ns).take j)).length := by rw [hwj]; simp [ByteArray.size]
        have := hlen.out
        omega
      by_cases hlt : j < k
      · obtain ⟨s, hs⟩ : ∃ s, os[j]? = some s := ⟨_, List.getElem?_eq_getElem (by omega)⟩
        obtain ⟨u, hu⟩ : ∃ s, ns[j]? = some s := ⟨_, List.getElem?_eq_getElem (by omega)⟩
        have F4 := hF.out.below hB
        obtain rfl : j = q.toNat := by omega
        have f0 := F4.c0 _ s hlt hs
        have f1 := F4.c1 _ u hlt hu
        have f2 := F4.c2 _ s hlt hs
        have f3 := F4.c3 _ u hlt hu
        have hst := chain_step (k := k) hs hu hlt
        have hsl : s.size ≤ 1099511627776 ∧ u.size ≤ 1099511627776 := by
          have h1 := chainText_le (os.zip ns) (q.toNat + 1) k hlt
          have h2 := hlen.out
          rw [hst, List.length_append] at h1
          have h3 := faultText_ge (s, u)
          simp only at h3
          omega
        obtain ⟨hsl, hul⟩ := hsl
        have x0 : q < (k : Int) := by omega
        have x1 : q < (os.length : Int) := by omega
        have x2 : q < (ns.length : Int) := by omega
        have hqH := hidden hq
        replace hkk := hidden hkk
        replace hwj := hidden hwj
        replace hst := hidden hst
        have hltH := hidden hlt
        clear hq hlt hs hu F4 hjk hdone herr hes hF hc3 hg3 ht3 hkl hlen hk
        cases hE : u.toList.isEmpty with
        | true =>
          have hE' : (!u.toList.isEmpty) = false := by rw [hE]; rfl
          have hw1 := hidden (show wj ++ s ++ ⟨#[58, 32]⟩ = (⟨(chainText ((os.zip ns).take (q.toNat + 1))).toArray⟩ : ByteArray) by
            rw [hst.out, hwj.out]
            apply ByteArray.ext
            simp [faultText, hE])
          go_wp2_with fail
          go_quiet (fail)
          go_wp2_with fail
          go_roundg (k - (q.toNat + 1))
          case measure => rw [hkk.out]; have := hltH.out; omega
          case rel => exact ⟨below_drewN hB _, q.toNat + 1, hltH.out, ⟨_, rfl, by rw [hqH.out]; simp⟩, rfl, _, rfl, hw1.out⟩
        | false =>
          have hE' : (!u.toList.isEmpty) = true := by rw [hE]; rfl
          have hw1 := hidden (show wj ++ s ++ ⟨#[32]⟩ ++ u ++ ⟨#[58, 32]⟩ = (⟨(chainText ((os.zip ns).take (q.toNat + 1))).toArray⟩ : ByteArray) by
            rw [hst.out, hwj.out]
            apply ByteArray.ext
            simp [faultText, hE])
          go_wp2_with fail
          go_quiet (fail)
          go_wp2_with fail
          go_roundg (k - (q.toNat + 1))
          case measure => rw [hkk.out]; have := hltH.out; omega
          case rel => exact ⟨below_drewN hB _, q.toNat + 1, hltH.out, ⟨_, rfl, by rw [hqH.out]; simp⟩, rfl, _, rfl, hw1.out⟩
      · have hjk2 : j = k := by omega
        have hge : ¬ q < (k : Int) := by omega
        subst hjk2
        have hsz := hB.size
        obtain ⟨es, hese⟩ : ∃ es : ByteArray, es = ⟨(errHead ++ Lib.itoa n).toArray⟩ := ⟨_, rfl⟩
        have hesl : es.size ≤ 27 := by rw [hese]; exact hes.out
        replace hwj := hidden hwj
        replace hese := hidden hese
        replace hkk := hidden hkk
        clear hq hlt hjk
        go_wp2_with fail
        refine (hdone.out _ hB wj es hwj.out hese.out).mono ?_
        rintro ev w5 ⟨rfl, hB5⟩
        go_wp2_with fail
        refine (herr.out _ hB5 es hese.out).mono ?_
        rintro ev w6 ⟨rfl, hB6⟩
        go_wp2_with fail
        refine (awake_calls w6 (hg3.out.below hB6)).mono ?_
        rintro ev w7 ⟨rfl, hB7⟩
        replace hB7 := hB6.trans (hB7.mono hB6.size)
        go_wp2
        go_ret
        exact ⟨rfl, hB3.trans (hB7.mono hs3')⟩
theorem chains_calls (a0 a1 : Option Addr) (c0 c1 : Nat) (os ns : List ByteArray) (n : Int) (w : World) (hg : GT w) (ht : PT w) (h0 : StrsAt w a0 os) (h1 : StrsAt w a1 ns) (hlo : -9223372036854775808 ≤ n) (hhi : n ≤ 9223372036854775807)
    (hlen : (chainText ((os.zip ns).take (min (min os.length ns.length) 30))).length ≤ 1099511627776) :
    Calls Tryd.prog 6 #[.slice a0 os.length c0, .slice a1 ns.length c1, .int .i64 n] w fun ev w' => ev = .returned (.bool true) ∧ Below w.heap.size w w' := by
  by_cases hk : min (min os.length ns.length) 30 = 0
  · exact chains_none a0 a1 _ _ c0 c1 n w hg hk
  · cases hn : (n == 0) with
    | true =>
      obtain rfl : n = 0 := by simpa using hn
      exact chains_zero a0 a1 c0 c1 _ os ns w hg h0 h1 rfl (by omega)
    | false => exact chains_some a0 a1 c0 c1 _ os ns n hn hlo hhi w hg ht h0 h1 rfl (by omega) hlen
end Go.Proofs.YtiaplgdplenedaaDoor
