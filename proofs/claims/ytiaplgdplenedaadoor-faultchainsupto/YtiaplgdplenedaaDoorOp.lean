/- fault.Ops and fault.Names: of a chain of fewer than 1,000,000 Faults the Ops and the Names of the first hundred, the outmost first, in new memory. -/
import Derived.Test.YtiaplgdplenedaaDoorFs
namespace Go.Proofs.YtiaplgdplenedaaDoor
open Go.RowKit Go.Extern.Stop Go.Stop Go.Extern
set_option maxRecDepth 100000

theorem ChainB.nth {w : World} : ∀ {l : List (ByteArray × ByteArray)} {bs : List Nat} {bot e : Value}, ChainB w l bs bot e → ∀ k (hk : k < l.length), ∃ b, bs[k]? = some b ∧ b < w.heap.size ∧ w.cell? ⟨b, 0, none⟩ = some (.string l[k].1) ∧ w.cell? ⟨b, 1, none⟩ = some (.string l[k].2)
  | (op, nm) :: r, b :: bs, _, _, h, 0, _ => ⟨b, rfl, h.2.1, h.2.2.1, h.2.2.2.1⟩
  | (op, nm) :: r, b :: bs, _, _, h, k + 1, hk => by
    obtain ⟨_, _, _, _, e', _, hr⟩ := h
    have := hr.nth k (by simpa using hk)
    simpa using this
theorem Tryd.infoS : (Tryd.prog.info? 9).map (fun i => (i.zero, i.size, i.bytes)) = some (some (.string ⟨#[]⟩), 1, 16) := by kernel_rfl
theorem take_snoc {α : Type} (l : List α) (k : Nat) (h : k < l.length) : l.take (k + 1) = l.take k ++ [l[k]] := List.take_succ_eq_append_getElem h
/-- The address behind a row that owns something. -/
theorem owned_addr {w : World} {base : Nat} {e : TypeId} {a : Option Addr} {n cap : Nat} {xs : List Value} (h : w.ownsRow base e 1 (.slice a n cap) n xs) (hn : 0 < n) : ∃ g, a = some ⟨g, 0, none⟩ ∧ base ≤ g ∧ g < w.heap.size := by
  rcases h.2 with ⟨h1, rfl⟩ | ⟨g, cap', cur, h1, hg, hh, _⟩
  · omega
  · refine ⟨g, (Value.slice.inj h1).1, hg, ?_⟩
    rcases Nat.lt_or_ge g w.heap.size with h | h
    · exact h
    · rw [Array.getElem?_eq_none h] at hh; cases hh

theorem own_mono {w : World} {base base' : Nat} {e : TypeId} {v : Value} {n : Nat} {xs : List Value} (h : w.ownsRow base e 1 v n xs) (hb : base' ≤ base) : w.ownsRow base' e 1 v n xs := by
  obtain ⟨h1, h2⟩ := h
  refine ⟨h1, ?_⟩
  rcases h2 with h2 | ⟨g, cap, cur, hv, hg, rest⟩
  · exact Or.inl h2
  · exact Or.inr ⟨g, cap, cur, hv, Nat.le_trans hb hg, rest⟩

abbrev opsOf (l : List (ByteArray × ByteArray)) : List Value := l.map fun p => .string p.1
set_option maxHeartbeats 2000000 in
theorem ops_low (w : World) (l : List (ByteArray × ByteArray)) (bs : List Nat) (e : Value) (m : Nat) (hm : m ≤ 100) (hml : m ≤ l.length)
    (hnth : Hid (∀ k (hk : k < l.length), ∃ b, bs[k]? = some b ∧ b < w.heap.size ∧ w.cell? ⟨b, 0, none⟩ = some (.string l[k].1) ∧ w.cell? ⟨b, 1, none⟩ = some (.string l[k].2)))
    (hfs : Hid (Calls Tryd.prog 22 #[e] w fun ev w' => ∃ v, ev = .returned v ∧ w'.ownsRow w.heap.size 43 1 v m (pts (bs.take m)) ∧ Below w.heap.size w w')) :
    Calls Tryd.prog 12 #[e] w fun ev w' => ∃ v, ev = .returned v ∧ w'.ownsRow w.heap.size 9 1 v m (opsOf (l.take m)) ∧ Below w.heap.size w w' := by
  obtain ⟨i0, hi, hz0, hz1, hz2⟩ := info_parts Tryd.infoS
  go_enter Tryd.func12, Tryd.ntmps12
  go_wp2_with fail
  refine (hfs.out).mono ?_
  rintro ev w1 ⟨v, rfl, hown, hB1⟩
  clear hfs
  obtain ⟨sa, cap, rfl⟩ := owned_shape hown
  replace hown := hidden hown
  go_wp2_with fail
  go_loopg [3, 9] m (fun kk v i wr => ∃ k : Nat, k ≤ m ∧ (∃ q : Int, i = .int .i64 q ∧ q = (k : Int)) ∧ kk = m - k ∧ wr.ownsRow w1.heap.size 9 1 v k (opsOf (l.take k)) ∧ Below w1.heap.size w1 wr)
  case atStart => exact ⟨0, Nat.zero_le _, ⟨0, rfl, rfl⟩, by simp, World.ownsRow_nil _ _ _ _, Below.refl _ _⟩
  case round =>
    obtain ⟨k, hkm, ⟨q, rfl, hq⟩, hkk, hownS, hB2⟩ := hrel
    have hq0 : 0 ≤ q := by omega
    obtain ⟨va, vcap, rfl⟩ := owned_shape hownS
    replace hownS := hidden hownS
    replace hkk := hidden hkk
    by_cases hlt : k < m
    · obtain ⟨g, rfl, hg1, hg2⟩ := owned_addr hown.out (by omega)
      have hkl : k < l.length := by omega
      obtain ⟨b, hb, hbw, hb0, hb1⟩ := hnth.out k hkl
      have hcell : w1.cell? ⟨g, k, none⟩ = some (.pointer (some ⟨b, 0, none⟩)) := by
        rw [hown.out.cellAt k (by omega), List.getElem?_map, List.getElem?_take, if_pos hlt, hb]; rfl
      have hcell := (hB2.cell (p := ⟨g, k, none⟩) hg2).trans hcell
      have hbx := (hB2.cell (p := ⟨b, 0, none⟩) (Nat.lt_of_lt_of_le hbw hB1.size)).trans ((hB1.cell (p := ⟨b, 0, none⟩) hbw).trans hb0)
      have hsn := take_snoc l k hkl
      clear hb0 hb1
      generalize l[k] = p at hbx hsn
      obtain ⟨op, nm⟩ := p
      simp only at hbx
      replace hsn := hidden hsn
      have hq1 : q < (m : Int) := by omega
      obtain rfl : k = q.toNat := by omega
      have hqH := hidden hq
      have hsz1 := hB1.size
      have hsz2 := hB2.size
      have hbr : b < wr.heap.size := by omega
      have hkm1 := hidden hlt
      clear hq hb hkl hlt hkm hbw
      go_wp2_with (at_builtin; refine wpList_append_own _ rfl _ _ 22 rfl w1.heap.size 9 i0 (.string ⟨#[]⟩) 1 16 Tryd.underlying22 hi hz0 hz1 hz2 rfl (by decide) _ _ _ rfl (hownS.out.alloc _) ⟨wr.heap.size, 0, none⟩ 1 1 [.string op] rfl rfl ?c1 ?c2 ?c3 ?c4 ?c5 ?_)
      case c1 =>
        intro j u hj
        match j, hj with
        | 0, hj => simp at hj; subst hj; simp [Addr.add]
      case c2 => intro u hu; simp at hu; subst hu; rfl
      case c3 => unfold maxLen; omega
      case c4 => omega
      case c5 => simp; omega
      intro v' w3 hown3 hgrow _
      have hB3 : Below w1.heap.size w1 w3 := (hB2.alloc hsz2 _).grown hgrow (by simp; omega) (own_block_ge hownS.out)
      replace hown3 := hidden hown3
      clear hgrow hcell hbx
      go_wp2
      go_roundg (m - (q.toNat + 1))
      case measure => rw [hkk.out]; have := hkm1.out; omega
      case rel =>
        refine ⟨q.toNat + 1, hkm1.out, ⟨_, rfl, by rw [hqH.out]; simp⟩, rfl, ?_, hB3⟩
        rw [hsn.out]
        have := hown3.out
        simpa using this
    · have hge : ¬ q < (m : Int) := by omega
      have hkm2 : k = m := by omega
      replace hkm2 := hidden hkm2
      clear hq hkm hlt
      go_wp2
      go_ret
      refine ⟨_, rfl, ?_, hB1.trans (hB2.mono hB1.size)⟩
      have h3 := hownS.out
      rw [hkm2.out] at h3
      have h4 := own_mono h3 hB1.size
      simp only [List.map_take] at h4 ⊢
      rw [hkm2.out]
      exact h4
theorem ops_chain (w : World) (l : List (ByteArray × ByteArray)) (bs : List Nat) (bot e : Value) (hbot : bot = .nilIface ∨ ∃ n, bot = num n) (hc : ChainB w l bs bot e) (hl : l.length < 1000000) :
    Calls Tryd.prog 12 #[e] w fun ev w' => ∃ v, ev = .returned v ∧ w'.ownsRow w.heap.size 9 1 v (min l.length 100) (opsOf (l.take (min l.length 100))) ∧ Below w.heap.size w w' := by
  have h := faults_chain w l bs bot e hbot hc hl
  have ht : bs.take 100 = bs.take (min l.length 100) := by rw [← hc.len, Nat.min_comm, ← List.take_take, List.take_length]
  rw [ht] at h
  exact ops_low w l bs e _ (Nat.min_le_right _ _) (Nat.min_le_left _ _) (hidden hc.nth) (hidden h)

abbrev namesOf (l : List (ByteArray × ByteArray)) : List Value := l.map fun p => .string p.2
set_option maxHeartbeats 2000000 in
theorem names_low (w : World) (l : List (ByteArray × ByteArray)) (bs : List Nat) (e : Value) (m : Nat) (hm : m ≤ 100) (hml : m ≤ l.length)
    (hnth : Hid (∀ k (hk : k < l.length), ∃ b, bs[k]? = some b ∧ b < w.heap.size ∧ w.cell? ⟨b, 0, none⟩ = some (.string l[k].1) ∧ w.cell? ⟨b, 1, none⟩ = some (.string l[k].2)))
    (hfs : Hid (Calls Tryd.prog 22 #[e] w fun ev w' => ∃ v, ev = .returned v ∧ w'.ownsRow w.heap.size 43 1 v m (pts (bs.take m)) ∧ Below w.heap.size w w')) :
    Calls Tryd.prog 17 #[e] w fun ev w' => ∃ v, ev = .returned v ∧ w'.ownsRow w.heap.size 9 1 v m (namesOf (l.take m)) ∧ Below w.heap.size w w' := by
  obtain ⟨i0, hi, hz0, hz1, hz2⟩ := info_parts Tryd.infoS
  go_enter Tryd.func17, Tryd.ntmps17
  go_wp2_with fail
  refine (hfs.out).mono ?_
  rintro ev w1 ⟨v, rfl, hown, hB1⟩
  clear hfs
  obtain ⟨sa, cap, rfl⟩ := owned_shape hown
  replace hown := hidden hown
  go_wp2_with fail
  go_loopg [3, 9] m (fun kk v i wr => ∃ k : Nat, k ≤ m ∧ (∃ q : Int, i = .int .i64 q ∧ q = (k : Int)) ∧ kk = m - k ∧ wr.ownsRow w1.heap.size 9 1 v k (namesOf (l.take k)) ∧ Below w1.heap.size w1 wr)
  case atStart => exact ⟨0, Nat.zero_le _, ⟨0, rfl, rfl⟩, by simp, World.ownsRow_nil _ _ _ _, Below.refl _ _⟩
  case round =>
    obtain ⟨k, hkm, ⟨q, rfl, hq⟩, hkk, hownS, hB2⟩ := hrel
    have hq0 : 0 ≤ q := by omega
    obtain ⟨va, vcap, rfl⟩ := owned_shape hownS
    replace hownS := hidden hownS
    replace hkk := hidden hkk
    by_cases hlt : k < m
    · obtain ⟨g, rfl, hg1, hg2⟩ := owned_addr hown.out (by omega)
      have hkl : k < l.length := by omega
      obtain ⟨b, hb, hbw, hb0, hb1⟩ := hnth.out k hkl
      have hcell : w1.cell? ⟨g, k, none⟩ = some (.pointer (some ⟨b, 0, none⟩)) := by
        rw [hown.out.cellAt k (by omega), List.getElem?_map, List.getElem?_take, if_pos hlt, hb]; rfl
      have hcell := (hB2.cell (p := ⟨g, k, none⟩) hg2).trans hcell
      have hbx := (hB2.cell (p := ⟨b, 1, none⟩) (Nat.lt_of_lt_of_le hbw hB1.size)).trans ((hB1.cell (p := ⟨b, 1, none⟩) hbw).trans hb1)
      have hsn := take_snoc l k hkl
      clear hb0 hb1
      generalize l[k] = p at hbx hsn
      obtain ⟨op, nm⟩ := p
      simp only at hbx
      replace hsn := hidden hsn
      have hq1 : q < (m : Int) := by omega
      obtain rfl : k = q.toNat := by omega
      have hqH := hidden hq
      have hsz1 := hB1.size
      have hsz2 := hB2.size
      have hbr : b < wr.heap.size := by omega
      have hkm1 := hidden hlt
      clear hq hb hkl hlt hkm hbw
      go_wp2_with (at_builtin; refine wpList_append_own _ rfl _ _ 22 rfl w1.heap.size 9 i0 (.string ⟨#[]⟩) 1 16 Tryd.underlying22 hi hz0 hz1 hz2 rfl (by decide) _ _ _ rfl (hownS.out.alloc _) ⟨wr.heap.size, 0, none⟩ 1 1 [.string nm] rfl rfl ?c1 ?c2 ?c3 ?c4 ?c5 ?_)
      case c1 =>
        intro j u hj
        match j, hj with
        | 0, hj => simp at hj; subst hj; simp [Addr.add]
      case c2 => intro u hu; simp at hu; subst hu; rfl
      case c3 => unfold maxLen; omega
      case c4 => omega
      case c5 => simp; omega
      intro v' w3 hown3 hgrow _
      have hB3 : Below w1.heap.size w1 w3 := (hB2.alloc hsz2 _).grown hgrow (by simp; omega) (own_block_ge hownS.out)
      replace hown3 := hidden hown3
      clear hgrow hcell hbx
      go_wp2
      go_roundg (m - (q.toNat + 1))
      case measure => rw [hkk.out]; have := hkm1.out; omega
      case rel =>
        refine ⟨q.toNat + 1, hkm1.out, ⟨_, rfl, by rw [hqH.out]; simp⟩, rfl, ?_, hB3⟩
        rw [hsn.out]
        have := hown3.out
        simpa using this
    · have hge : ¬ q < (m : Int) := by omega
      have hkm2 : k = m := by omega
      replace hkm2 := hidden hkm2
      clear hq hkm hlt
      go_wp2
      go_ret
      refine ⟨_, rfl, ?_, hB1.trans (hB2.mono hB1.size)⟩
      have h3 := hownS.out
      rw [hkm2.out] at h3
      have h4 := own_mono h3 hB1.size
      simp only [List.map_take] at h4 ⊢
      rw [hkm2.out]
      exact h4
theorem names_chain (w : World) (l : List (ByteArray × ByteArray)) (bs : List Nat) (bot e : Value) (hbot : bot = .nilIface ∨ ∃ n, bot = num n) (hc : ChainB w l bs bot e) (hl : l.length < 1000000) :
    Calls Tryd.prog 17 #[e] w fun ev w' => ∃ v, ev = .returned v ∧ w'.ownsRow w.heap.size 9 1 v (min l.length 100) (namesOf (l.take (min l.length 100))) ∧ Below w.heap.size w w' := by
  have h := faults_chain w l bs bot e hbot hc hl
  have ht : bs.take 100 = bs.take (min l.length 100) := by rw [← hc.len, Nat.min_comm, ← List.take_take, List.take_length]
  rw [ht] at h
  exact names_low w l bs e _ (Nat.min_le_right _ _) (Nat.min_le_left _ _) (hidden hc.nth) (hidden h)
end Go.Proofs.YtiaplgdplenedaaDoor
