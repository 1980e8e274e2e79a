/- The statements' own helper chain: Faults around a number, the first one outmost. -/
import Derived.Test.YtiaplgdplenedaaDoorRaw
import Derived.Deep.RegionWith
namespace Go.Proofs.YtiaplgdplenedaaDoor
open Go.RowKit Go.Extern.Stop Go.Stop Go.Extern
set_option maxRecDepth 100000

/-- A slice of texts as it lies in memory. -/
def StrsAt (w : World) (a : Option Addr) (ss : List ByteArray) : Prop :=
  ss = [] ∨ ∃ b o, a = some ⟨b, o, none⟩ ∧ b < w.heap.size ∧ ∀ j s, ss[j]? = some s → w.cell? ⟨b, o + j, none⟩ = some (.string s)
theorem StrsAt.below {w w' : World} {a : Option Addr} {ss : List ByteArray} (h : StrsAt w a ss) (hb : Below w.heap.size w w') : StrsAt w' a ss := by
  rcases h with h | ⟨b, o, ha, hbl, hc⟩
  · exact Or.inl h
  · exact Or.inr ⟨b, o, ha, Nat.lt_of_lt_of_le hbl hb.size, fun j s hj => (hb.cell (p := ⟨b, o + j, none⟩) hbl).trans (hc j s hj)⟩

theorem Tryd.min3 (n0 n1 k : Nat) (hk : min (min n0 n1) 30 = k) (w : World) : (Builtin.min_ #[3, 3, 3] 3 #[.int .i64 (n0 : Int), .int .i64 (n1 : Int), .int .i64 30]).run Tryd.prog w = .ok (.int .i64 (k : Int)) w := by
  simp [Builtin.min_, Builtin.min2]
  split <;> split <;> omega

theorem wrap_small (q : Int) (h0 : 0 ≤ q) (h1 : q ≤ 4611686018427387904) : IntKind.i64.wrap q = q := by
  have h4 : q % (2 ^ 64 : Int) = q := by omega
  simp only [IntKind.wrap, IntKind.bits, IntKind.signed, h4]
  rw [if_neg (by simp; omega)]
set_option maxHeartbeats 1000000 in
theorem chain_none (n : Int) (w : World) (a0 a1 : Option Addr) (n0 n1 c0 c1 : Nat) (hk : min (min n0 n1) 30 = 0) :
    Calls Tryd.prog 9 #[.slice a0 n0 c0, .slice a1 n1 c1, .int .i64 n] w fun ev w' => ev = .returned .nilIface ∧ w' = w := by
  have hm := Tryd.min3 n0 n1 0 hk
  clear hk
  go_enter Tryd.func9, Tryd.ntmps9
  go_wp2
  go_ret
  exact ⟨rfl, rfl⟩

theorem zip_last {os ns : List ByteArray} {s0 s1 : ByteArray} {k : Nat} (h0 : os[k - 1]? = some s0) (h1 : ns[k - 1]? = some s1) (hk : 0 < k) : ((os.zip ns).take k).drop (k - 1) = [(s0, s1)] := by
  have hz : (os.zip ns)[k - 1]? = some (s0, s1) := by simp [List.getElem?_zip_eq_some, h0, h1]
  rw [List.drop_take, show k - (k - 1) = 1 by omega]
  obtain ⟨hlt, he⟩ := List.getElem?_eq_some_iff.1 hz
  rw [List.drop_eq_getElem_cons hlt, he]
  simp
theorem zip_step {os ns : List ByteArray} {t0 t1 : ByteArray} {k j : Nat} (h0 : os[j - 1]? = some t0) (h1 : ns[j - 1]? = some t1) (hj : 0 < j) (hk : j ≤ k) : ((os.zip ns).take k).drop (j - 1) = (t0, t1) :: ((os.zip ns).take k).drop j := by
  have hz : ((os.zip ns).take k)[j - 1]? = some (t0, t1) := by
    rw [List.getElem?_take, if_pos (by omega)]
    simp [List.getElem?_zip_eq_some, h0, h1]
  obtain ⟨hlt, he⟩ := List.getElem?_eq_some_iff.1 hz
  rw [List.drop_eq_getElem_cons hlt, he, show j - 1 + 1 = j by omega]

set_option maxHeartbeats 2000000 in
theorem chain_some (n : Int) (hn : (n == 0) = false) (w : World) (a0 a1 : Option Addr) (c0 c1 k : Nat) (os ns : List ByteArray) (h0 : StrsAt w a0 os) (h1 : StrsAt w a1 ns) (hk : min (min os.length ns.length) 30 = k) (hkp : 0 < k) :
    Calls Tryd.prog 9 #[.slice a0 os.length c0, .slice a1 ns.length c1, .int .i64 n] w fun ev w' => ∃ b, ev = .returned (flt b) ∧ Chain w' ((os.zip ns).take k) (num n) (flt b) ∧ Below w.heap.size w w' := by
  have hm := Tryd.min3 _ _ k hk
  have hk0 : k ≤ os.length := by omega
  have hk1 : k ≤ ns.length := by omega
  have hk2 : k ≤ 30 := by omega
  rcases h0 with h0 | ⟨b0, o0, rfl, hb0, h0⟩
  · subst h0; simp at hk0; omega
  rcases h1 with h1 | ⟨b1, o1, rfl, hb1, h1⟩
  · subst h1; simp at hk1; omega
  obtain ⟨q, hq⟩ : ∃ q : Int, q + 1 = (k : Int) := ⟨(k : Int) - 1, by omega⟩
  have i0 : q.toNat = k - 1 := by omega
  obtain ⟨s0, hs0⟩ : ∃ s, os[k - 1]? = some s := ⟨_, List.getElem?_eq_getElem (by omega)⟩
  obtain ⟨s1, hs1⟩ : ∃ s, ns[k - 1]? = some s := ⟨_, List.getElem?_eq_getElem (by omega)⟩
  have e0 : w.cell? ⟨b0, o0 + q.toNat, none⟩ = some (.string s0) := by rw [i0]; exact h0 _ _ hs0
  have e1 : w.cell? ⟨b1, o1 + q.toNat, none⟩ = some (.string s1) := by rw [i0]; exact h1 _ _ hs1
  replace hs0 := hidden hs0
  replace hs1 := hidden hs1
  have q0 : q < (os.length : Int) := by omega
  have q1 : q < (ns.length : Int) := by omega
  have q2 : 0 ≤ q := by omega
  have q4 : q ≤ 29 := by omega
  have x1 : IntKind.i64.wrap q = q := wrap_small q (by omega) (by omega)
  have q3 : (q + 1 == 0) = false := by simp; omega
  rw [← hq] at hm
  replace h0 := hidden h0
  replace h1 := hidden h1
  replace hk := hidden hk
  replace hq := hidden hq
  clear i0
  go_enter Tryd.func9, Tryd.ntmps9
  go_wp2_with fail
  go_region_with (go_at_call 16; refine (new_num _ _ n _ hn).mono ?_; rintro ev w' ⟨rfl, rfl⟩)
  all_goals go_wp2_with fail
  all_goals
    go_loopg [8, 9] (k - 1) (fun j e i wr => Below w.heap.size w wr ∧ (∃ b, e = flt b) ∧ Chain wr (((os.zip ns).take k).drop j) (num n) e ∧ j ≤ k - 1 ∧ ∃ r : Int, i = .int .i64 r ∧ r + 1 = (j : Int))
    case atStart =>
      refine ⟨((Below.refl _ _).alloc (Nat.le_refl _) _).drew, ⟨_, rfl⟩, ?_, Nat.le_refl _, _, rfl, by have := hq.out; omega⟩
      have hz : ((os.zip ns).take k).drop (k - 1) = [(s0, s1)] := zip_last hs0.out hs1.out hkp
      rw [hz]
      exact (Chain.alloc (w := w) (l := []) (bot := num n) (e := num n) s0 s1 rfl).below (Below.refl _ _).drew
    case round =>
      obtain ⟨hB, ⟨b, rfl⟩, hch, hjk, r, rfl, hr⟩ := hrel
      have hsz := hB.size
      by_cases hr0 : 0 ≤ r
      · obtain ⟨t0, ht0⟩ : ∃ s, os[gk - 1]? = some s := ⟨_, List.getElem?_eq_getElem (by omega)⟩
        obtain ⟨t1, ht1⟩ : ∃ s, ns[gk - 1]? = some s := ⟨_, List.getElem?_eq_getElem (by omega)⟩
        have j0 : r.toNat = gk - 1 := by omega
        have f0 : wr.cell? ⟨b0, o0 + r.toNat, none⟩ = some (.string t0) := (hB.cell (p := ⟨b0, o0 + r.toNat, none⟩) hb0).trans (by rw [j0]; exact h0.out _ _ ht0)
        have f1 : wr.cell? ⟨b1, o1 + r.toNat, none⟩ = some (.string t1) := (hB.cell (p := ⟨b1, o1 + r.toNat, none⟩) hb1).trans (by rw [j0]; exact h1.out _ _ ht1)
        have r0 : r < (os.length : Int) := by omega
        have r1 : r < (ns.length : Int) := by omega
        have r4 : r ≤ 29 := by omega
        have x3 : IntKind.i64.wrap r = r := wrap_small r (by omega) (by omega)
        have hC1 := hidden (hch.alloc t0 t1)
        have hz := hidden (zip_step (k := k) ht0 ht1 (by omega) (by omega))
        replace hr := hidden hr
        clear hch e0 e1 ht0 ht1 j0
        go_wp2_with fail
        go_region_with (go_at_call 10; refine (wrap_some _ _ _ _ _).mono ?_; rintro ev w' ⟨rfl, rfl⟩)
        all_goals go_wp2_with fail
        all_goals
          go_roundg (gk - 1)
          case measure => have := hr.out; omega
          case rel =>
            refine ⟨(hB.alloc hsz _).drew, ⟨_, rfl⟩, ?_, by omega, _, rfl, by have := hr.out; omega⟩
            rw [hz.out]
            exact hC1.out.below (Below.refl _ _).drew
      · have hj : gk = 0 := by omega
        have hr1 : r < 0 := by omega
        replace hj := hidden hj
        replace hr := hidden hr
        clear e0 e1
        go_wp2_with fail
        go_ret
        refine ⟨b, rfl, ?_, hB⟩
        rw [hj.out] at hch
        simpa using hch
end Go.Proofs.YtiaplgdplenedaaDoor
