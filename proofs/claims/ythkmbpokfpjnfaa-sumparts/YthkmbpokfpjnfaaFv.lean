/- The digest told byte by byte: its range; no two last bytes lead to the same one; rows of bytes that are made by append; rows of rows. -/
import Derived.Test.YthkmbpokfpjnfaaAk
import Derived.Laws.AppendOwnNone
namespace Go.Proofs.Ythkmbpokfpjnfaa
open Go.RowKit
set_option maxRecDepth 100000

theorem wrap_u64 (x : Int) : IntKind.u64.wrap x = x % 18446744073709551616 := by simp [IntKind.wrap, IntKind.bits, IntKind.signed]
theorem xor_u64 (n c : Int) (hn : 0 ≤ n ∧ n < 18446744073709551616) (hc : 0 ≤ c ∧ c ≤ 255) : bits .xor .u64 n c = ((n.toNat ^^^ c.toNat : Nat) : Int) := by
  have h1 : bits .xor .u64 n c = IntKind.u64.wrap (((BitVec.ofInt 64 n ^^^ BitVec.ofInt 64 c).toNat : Nat) : Int) := rfl
  have h2 : (BitVec.ofInt 64 n ^^^ BitVec.ofInt 64 c).toNat = n.toNat ^^^ c.toNat := by
    rw [BitVec.toNat_xor, BitVec.toNat_ofInt, BitVec.toNat_ofInt, Int.emod_eq_of_lt hn.1 (by simpa using hn.2), Int.emod_eq_of_lt hc.1 (by simp; omega)]
  have h3 : (BitVec.ofInt 64 n ^^^ BitVec.ofInt 64 c).toNat < 18446744073709551616 := (BitVec.ofInt 64 n ^^^ BitVec.ofInt 64 c).isLt
  rw [h2] at h3
  rw [h1, h2, wrap_u64]
  omega
theorem fnvStep_range (n c : Int) : 0 ≤ fnvStep n c ∧ fnvStep n c < 18446744073709551616 := by
  unfold fnvStep; rw [wrap_u64]; omega
theorem fnv_range (n : Int) (hn : 0 ≤ n ∧ n < 18446744073709551616) (zs : List Int) : 0 ≤ fnv n zs ∧ fnv n zs < 18446744073709551616 := by
  unfold fnv
  induction zs generalizing n with
  | nil => exact hn
  | cons c zs ih => exact ih _ (fnvStep_range n c)
theorem mul_back (a b : Nat) (ha : a < 18446744073709551616) (hb : b < 18446744073709551616) (h : a * 1099511628211 % 18446744073709551616 = b * 1099511628211 % 18446744073709551616) : a = b := by
  have e : ∀ x : Nat, x < 18446744073709551616 → (x * 1099511628211 % 18446744073709551616) * 14886173955864302971 % 18446744073709551616 = x := by
    intro x hx
    rw [Nat.mod_mul_mod, Nat.mul_assoc, Nat.mul_mod]
    have : 1099511628211 * 14886173955864302971 % 18446744073709551616 = 1 := by decide
    rw [this, Nat.mul_one, Nat.mod_mod, Nat.mod_eq_of_lt hx]
  rw [← e a ha, ← e b hb, h]
theorem xor_back (n x y : Nat) (h : n ^^^ x = n ^^^ y) : x = y := by
  have := congrArg (fun z => n ^^^ z) h
  simpa [← Nat.xor_assoc] using this
theorem xor_lt (n c : Nat) (hn : n < 18446744073709551616) (hc : c ≤ 255) : n ^^^ c < 18446744073709551616 := Nat.xor_lt_two_pow (n := 64) hn (by omega)
theorem cast_back (a b P M : Nat) (h : (a : Int) * (P : Int) % (M : Int) = (b : Int) * (P : Int) % (M : Int)) : a * P % M = b * P % M := by exact_mod_cast h
theorem fnvStep_back (n x y : Int) (hn : 0 ≤ n ∧ n < 18446744073709551616) (hx : 0 ≤ x ∧ x ≤ 255) (hy : 0 ≤ y ∧ y ≤ 255) (h : fnvStep n x = fnvStep n y) : x = y := by
  unfold fnvStep at h
  rw [xor_u64 n x hn hx, xor_u64 n y hn hy, wrap_u64, wrap_u64] at h
  have h1 := mul_back _ _ (xor_lt n.toNat x.toNat (by omega) (by omega)) (xor_lt n.toNat y.toNat (by omega) (by omega)) (cast_back _ _ 1099511628211 18446744073709551616 h)
  have := xor_back _ _ _ h1
  omega
theorem fnv_snoc (n : Int) (zs : List Int) (c : Int) : fnv n (zs ++ [c]) = fnvStep (fnv n zs) c := by simp [fnv]

theorem Try.infoByte : (Try.prog.info? 5).map (fun i => (i.zero, i.size, i.bytes)) = some (some (.int .u8 0), 1, 1) := by kernel_rfl
theorem info_parts {P : Program} {t : TypeId} {z : Option Value} {a b : Nat} (h : (P.info? t).map (fun i => (i.zero, i.size, i.bytes)) = some (z, a, b)) : ∃ i, P.info? t = some i ∧ i.zero = z ∧ i.size = a ∧ i.bytes = b := by
  obtain ⟨i, hi, he⟩ := Option.map_eq_some_iff.1 h
  simp only [Prod.mk.injEq] at he
  exact ⟨i, hi, he.1, he.2.1, he.2.2⟩
abbrev cellsOf (zs : List Int) : List Value := zs.map (Value.int .u8)
/-- A row of bytes that the call itself made. -/
abbrev OwnB (w : World) (base : Nat) (v : Value) (zs : List Int) : Prop := w.ownsRow base 5 1 v zs.length (cellsOf zs)
theorem OwnB.bytes {w : World} {base : Nat} {v : Value} {zs : List Int} (h : OwnB w base v zs) (hr : ∀ z ∈ zs, 0 ≤ z ∧ z ≤ 255) : BytesAt w v zs := by
  obtain ⟨h1, h2⟩ := h
  rcases h2 with ⟨rfl, h0⟩ | ⟨g, cap, cur, rfl, hg, hh, hl, hm, hsz, htk⟩
  · have : zs = [] := List.length_eq_zero_iff.1 h0
    subst this
    exact BytesAt.nil w
  · refine ⟨_, cap, rfl, hr, Nat.le_trans hl hm, fun h => (by cases h), fun _ => ⟨g, 0, rfl, ?_, fun k hk => ?_⟩⟩
    · rcases Nat.lt_or_ge g w.heap.size with h | h
      · exact h
      · rw [Array.getElem?_eq_none h] at hh; cases hh
    · have e1 : w.cell? ⟨g, 0 + k, none⟩ = cur[k]? := by simp [World.cell?, hh]
      rw [e1]
      have e2 : (cur.toList.take (zs.length * 1))[k]? = some (.int .u8 (zs.getD k 0)) := by rw [htk, getD_map hk]
      rw [Nat.mul_one, List.getElem?_take, if_pos hk] at e2
      simpa using e2
theorem append_bytes (w : World) (base : Nat) (ty : TypeId) (v x : Value) (xs zs : List Int) (hv : OwnB w base v xs) (hx : BytesAt w x zs) (hb : base ≤ w.heap.size) (hl : xs.length + zs.length ≤ 140737488355328) :
    ∃ v' w', (Builtin.append_ #[22, 22] ty #[v, x]).run Try.prog w = .ok v' w' ∧ OwnB w' base v' (xs ++ zs) ∧ Below base w w' := by
  obtain ⟨i0, hi, hz0, hz1, hz2⟩ := info_parts Try.infoByte
  obtain ⟨a, cap, rfl, hr, hm, hn, hc⟩ := hx
  have hown : ∀ k, v.ownBlock = some k → base ≤ k := by
    intro k hk
    rcases hv.2 with ⟨rfl, _⟩ | ⟨g, cap, cur, rfl, hg, _⟩
    · simp [Value.ownBlock] at hk
    · simp [Value.ownBlock] at hk; omega
  by_cases hz : zs = []
  · subst hz
    cases a with
    | none =>
      obtain rfl := hn rfl
      refine ⟨v, w, run_append_owned_none (P := Try.prog) (w := w) base _ ty _ i0 1 Try.underlying22 hi v _ _ hv, ?_, Below.refl _ _⟩
      simpa using hv
    | some a =>
      obtain ⟨v', w', hr1, hr2, hr3, _⟩ := run_append_own (P := Try.prog) w base 22 ty 5 i0 (.int .u8 0) 1 1 Try.underlying22 hi hz0 hz1 hz2 rfl (by decide) v _ _ hv a 0 cap [] rfl (by simp) (by simp) (by unfold maxLen; omega) (by simpa using hl) hb
      refine ⟨v', w', hr1, ?_, (Below.refl _ _).grown hr3 hb hown⟩
      simpa [OwnB, cellsOf] using hr2
  · obtain ⟨b, off, rfl, hlt, hcell⟩ := hc hz
    have c1 : ∀ j u, (cellsOf zs)[j]? = some u → w.cell? ((⟨b, off, none⟩ : Addr).add j) = some u := by
      intro j u hu
      have hj : j < zs.length := by
        rcases Nat.lt_or_ge j zs.length with h | h
        · exact h
        · rw [List.getElem?_eq_none (by simpa using h)] at hu; cases hu
      rw [getD_map hj] at hu
      rw [Go.WideShapes.add_plain, hcell j hj]
      exact hu
    have c2 : ∀ u ∈ cellsOf zs, u.oneCell' = true := by
      intro u hu
      obtain ⟨z, _, rfl⟩ := List.mem_map.1 hu
      rfl
    obtain ⟨v', w', hr1, hr2, hr3, _⟩ := run_append_own (P := Try.prog) w base 22 ty 5 i0 (.int .u8 0) 1 1 Try.underlying22 hi hz0 hz1 hz2 rfl (by decide) v _ _ hv ⟨b, off, none⟩ zs.length cap (cellsOf zs) (by simp) c1 c2 (by unfold maxLen; omega) (by simpa using hl) hb
    refine ⟨v', w', hr1, ?_, (Below.refl _ _).grown hr3 hb hown⟩
    simpa [OwnB, cellsOf] using hr2
/-- append, by what it answers; also where it stands behind a test of the same statement. -/
theorem wpList_append_eq {P : Program} {ops : Array Oper} {rest : List Oper} {o : Oper} {a : Act} {w : World} {Q : Exit → Act → World → Prop} (s x : Operand) (t : TypeId)
    (ho : o.op = .call { callee := .builtin .append, args := #[s, x], argTypes := #[t, t] }) (v xv v' : Value) (w' : World) (hs : a.eval s = v) (hx : a.eval x = xv)
    (hr : (Builtin.append_ #[t, t] o.type #[v, xv]).run P w = .ok v' w') (hg : Region.wanted o (yielded ops a.tmps) = true) (h : wpList P ops Q rest (a.put o.dst v') w') : wpList P ops Q (o :: rest) a w :=
  wpList_step fun K hK => by
    rw [if_pos hg]
    unfold Oper.wp execOp
    simp only [ho, resolve, invoke, builtin, Sem.run_bind, Sem.run_pure, Result.andThen_ok, List.map_toArray, List.map_cons, List.map_nil, hs, hx, hr]
    exact hK _ _ h
/-- A new block of rows. -/
theorem PartsAt.new (w : World) (vs : List Value) (zss : List (List Int)) (hm : zss.length ≤ maxLen) (hb : ∀ k, k < zss.length → ∃ x, vs[k]? = some x ∧ BytesAt w x (zss.getD k [])) :
    PartsAt (w.alloc (.cells vs.toArray 22)) (.slice (some ⟨w.heap.size, 0, none⟩) zss.length zss.length) zss :=
  ⟨_, _, rfl, hm, fun _ => ⟨_, _, rfl, by simp, fun k hk => by
    obtain ⟨x, hx, hbx⟩ := hb k hk
    exact ⟨x, by simp [hx], hbx.below ((Below.refl _ _).alloc (Nat.le_refl _) _)⟩⟩⟩
theorem byte_range {z : Int} (h : (Lit.int .u8 z).wf = true) : ∀ y ∈ [z], 0 ≤ y ∧ y ≤ 255 := by
  intro y hy
  obtain rfl := List.mem_singleton.1 hy
  exact bounds_u8 h
end Go.Proofs.Ythkmbpokfpjnfaa
