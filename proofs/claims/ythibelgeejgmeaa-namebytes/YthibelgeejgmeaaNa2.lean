/- Lists of texts in memory; strings.Cut at a stroke; name.Split: it parts a path as the document says. -/
import Derived.Test.YthibelgeejgmeaaNa1
import Derived.Test.YthibelgeejgmeaaShelf
import Derived.Laws.AppendOwn
import Derived.Lib.CutLaws
import Derived.BigCall
namespace Go.Proofs.Ythibelgeejgmeaa
open Go Go.RowKit
set_option maxRecDepth 100000

def mkB (x : List UInt8) : ByteArray := ⟨x.toArray⟩
theorem mk_list (x : List UInt8) : (mkB x).data.toList = x := by simp [mkB]
theorem mk_size (x : List UInt8) : (mkB x).size = x.length := by simp [mkB, ByteArray.size]
theorem mk_back (s : ByteArray) : mkB s.data.toList = s := by cases s; simp [mkB]
theorem mk_toList (x : List UInt8) : (mkB x).toList = x := by rw [Lib.toList_data, mk_list]
def encT (x : List UInt8) : Value := .string (mkB x)
/-- A list of texts. -/
def TxtsAt (w : World) (v : Value) (l : List (List UInt8)) : Prop := ∃ a cap, v = .slice a l.length cap ∧ l.length ≤ cap ∧ (l ≠ [] → ∃ b off, a = some ⟨b, off, none⟩ ∧ b < w.heap.size ∧ ∀ k x, l[k]? = some x → w.cell? ⟨b, off + k, none⟩ = some (.string (mkB x)))
theorem TxtsAt.nil (w : World) (a : Option Addr) (cap : Nat) : TxtsAt w (.slice a 0 cap) [] := ⟨a, cap, rfl, Nat.zero_le _, fun h => absurd rfl h⟩
theorem TxtsAt.below {w w' : World} {v : Value} {l : List (List UInt8)} (h : TxtsAt w v l) (hb : Below w.heap.size w w') : TxtsAt w' v l := by
  obtain ⟨a, cap, hv, hl, hc⟩ := h
  refine ⟨a, cap, hv, hl, fun hn => ?_⟩
  obtain ⟨b, off, ha, hlt, hx⟩ := hc hn
  exact ⟨b, off, ha, Nat.lt_of_lt_of_le hlt hb.size, fun k x hk => (hb.cell (p := ⟨b, off + k, none⟩) hlt).trans (hx k x hk)⟩
theorem TxtsAt.take {w : World} {a : Option Addr} {n cap : Nat} {l : List (List UInt8)} (h : TxtsAt w (.slice a n cap) l) (k : Nat) (hk : k ≤ l.length) : TxtsAt w (.slice a k cap) (l.take k) := by
  obtain ⟨a', cap', hv, hl, hc⟩ := h
  cases hv
  have e : (l.take k).length = k := by rw [List.length_take]; omega
  refine ⟨a, cap, by rw [e], by omega, fun hn => ?_⟩
  obtain ⟨b, off, ha, hlt, hx⟩ := hc (by rintro rfl; simp at hn)
  refine ⟨b, off, ha, hlt, fun j x hj => hx j x ?_⟩
  rw [List.getElem?_take] at hj
  split at hj
  · exact hj
  · cases hj
/-- A list of texts of one's own. -/
structure KeptT (base : Nat) (w : World) (v : Value) (l : List (List UInt8)) : Prop where
  row : w.ownsRow base 9 1 v l.length (l.map encT)
theorem KeptT.nil (base : Nat) (w : World) : KeptT base w (.slice none 0 0) [] := ⟨World.ownsRow_nil w base _ _⟩
theorem KeptT.below {base : Nat} {w w' : World} {v : Value} {l : List (List UInt8)} (h : KeptT base w v l) (hb : Below w.heap.size w w') : KeptT base w' v l := by
  refine ⟨h.row.1, ?_⟩
  rcases h.row.2 with h0 | ⟨g, cap, cur, hv, h1, hh, rest⟩
  · exact Or.inl h0
  · have hlt : g < w.heap.size := by
      rcases Nat.lt_or_ge g w.heap.size with h | h
      · exact h
      · rw [Array.getElem?_eq_none h] at hh; cases hh
    exact Or.inr ⟨g, cap, cur, hv, h1, (hb.block g hlt).trans hh, rest⟩
theorem KeptT.at {base : Nat} {w : World} {v : Value} {l : List (List UInt8)} (h : KeptT base w v l) : TxtsAt w v l := by
  rcases h.row.2 with ⟨rfl, h0⟩ | ⟨g', cap', cur, rfl, h1, hh, h2, h3, h4, h5⟩
  · obtain rfl := List.length_eq_zero_iff.1 h0
    exact TxtsAt.nil _ _ _
  · refine ⟨_, cap', rfl, ?_, fun _ => ⟨g', 0, rfl, ?_, fun k x hk => ?_⟩⟩
    · exact h2
    · rcases Nat.lt_or_ge g' w.heap.size with h | h
      · exact h
      · rw [Array.getElem?_eq_none h] at hh; cases hh
    · obtain ⟨hk', hx⟩ := List.getElem?_eq_some_iff.1 hk
      have hc := h.row.cellAt k (by omega)
      rw [Nat.zero_add, hc]
      simp [hk, encT]
theorem Try.infoStr : (Try.prog.info? 9).map (fun i => (i.zero, i.size, i.bytes)) = some (some (.string ⟨#[]⟩), 1, 16) := by kernel_rfl
theorem info_parts3 {P : Program} {t : TypeId} {z : Option Value} {a b : Nat} (h : (P.info? t).map (fun i => (i.zero, i.size, i.bytes)) = some (z, a, b)) : ∃ i, P.info? t = some i ∧ i.zero = z ∧ i.size = a ∧ i.bytes = b := by
  obtain ⟨i, hi, he⟩ := Option.map_eq_some_iff.1 h
  simp only [Prod.mk.injEq] at he
  exact ⟨i, hi, he.1, he.2.1, he.2.2⟩
theorem keptT_append {base : Nat} {w : World} {v : Value} {l : List (List UInt8)} (h : KeptT base w v l) (a : Addr) (c : Nat) (x : List UInt8) (hc : w.cell? a = some (.string (mkB x))) (hn : l.length ≤ 1000) (hbase : base ≤ w.heap.size) (ty : TypeId) :
    ∃ v' w', (Builtin.append_ #[22, 22] ty #[v, .slice (some a) 1 c]).run Try.prog w = .ok v' w' ∧ KeptT base w' v' (l ++ [x]) ∧ Below base w w' := by
  obtain ⟨i0, hi, hz0, hz1, hz2⟩ := info_parts3 Try.infoStr
  obtain ⟨v', w', hrun, hown, hgrow, -⟩ := run_append_own (P := Try.prog) w base 22 ty 9 i0 (.string ⟨#[]⟩) 1 16 Try.underlying22 hi hz0 hz1 hz2 (by simp [Value.cells]) (by decide)
    v l.length _ h.row a 1 c [encT x] rfl (fun j u hu => by
      cases j with
      | zero => simp at hu; subst hu; have : a.add 0 = a := by simp [Addr.add]
                rw [this]; exact hc
      | succ j => simp at hu) (by intro u hu; simp at hu; subst hu; rfl) (by unfold maxLen; omega) (by omega) hbase
  refine ⟨v', w', hrun, ⟨?_⟩, (Below.refl base w).grown hgrow hbase (fun k hk => (h.row.lt k hk).1)⟩
  rw [List.length_append, List.map_append]
  exact hown
theorem wpList_append_eq {P : Program} {ops : Array Oper} {rest : List Oper} {o : Oper} {a : Act} {w : World} {Q : Exit → Act → World → Prop} (s x : Operand) (t : TypeId)
    (ho : o.op = .call { callee := .builtin .append, args := #[s, x], argTypes := #[t, t] }) (v xv v' : Value) (w' : World) (hs : a.eval s = v) (hx : a.eval x = xv)
    (hr : (Builtin.append_ #[t, t] o.type #[v, xv]).run P w = .ok v' w') (hg : Region.wanted o (yielded ops a.tmps) = true) (h : wpList P ops Q rest (a.put o.dst v') w') : wpList P ops Q (o :: rest) a w :=
  wpList_step fun K hK => by
    rw [if_pos hg]
    unfold Oper.wp execOp
    simp only [ho, resolve, invoke, builtin, Sem.run_bind, Sem.run_pure, Result.andThen_ok, List.map_toArray, List.map_cons, List.map_nil, hs, hx, hr]
    exact hK _ _ h
def strokeS : ByteArray := ⟨#[47]⟩
set_option maxHeartbeats 2000000 in
theorem index_calls (s : ByteArray) (w : World) : Calls Try.prog 39 #[.string s, .string ⟨#[47]⟩] w fun e w' => e = .returned (.int .i64 (Lib.indexByte s.data.toList 47)) ∧ w' = w := by
  have hin := hidden (stringslite_indexByte s 47 w)
  by_cases h : ([47] : List UInt8) == s.toList
  · have e : Lib.indexByte s.data.toList 47 = 0 := by
      rw [Lib.toList_data] at h
      have : s.data.toList = [47] := by simpa using (eq_of_beq h).symm
      rw [this]; rfl
    rw [e]
    go_enter Try.func39, Try.ntmps39
    go_wp2
    go_ret
    exact ⟨rfl, rfl⟩
  · replace h : (([47] : List UInt8) == s.toList) = false := by simpa using h
    go_enter Try.func39, Try.ntmps39
    go_wp2_with fail
    refine hin.out.mono ?_
    rintro e w' ⟨rfl, rfl⟩
    go_wp2
    go_ret
    exact ⟨rfl, rfl⟩
set_option maxHeartbeats 2000000 in
theorem cut0_calls (s : ByteArray) (w : World) (hs : s.size ≤ 100000) : Calls Try.prog 33 #[.string s, .string ⟨#[47]⟩] w fun e w' => e = .returned (.tuple #[.string (mkB (Lib.cut s.data.toList [47]).1), .string (mkB (Lib.cut s.data.toList [47]).2.1), .bool (Lib.cut s.data.toList [47]).2.2]) ∧ Below w.heap.size w w' := by
  have hi := hidden (index_calls s w)
  rcases Lib.indexB_cases s ⟨#[47]⟩ with hix | ⟨i, hix, hroom⟩
  · obtain ⟨e1, e2, e3⟩ := Lib.cutB_miss s ⟨#[47]⟩ hix
    have hx : Lib.indexByte s.data.toList 47 = -1 := by rw [← Lib.index_one]; exact hix
    unfold mkB
    rw [show (⟨#[47]⟩ : ByteArray).data.toList = [47] from rfl] at e1 e2 e3
    rw [e1, e2, e3]
    rw [hx] at hi
    clear e1 e2 e3 hx hix
    go_enter Try.func33, Try.ntmps33
    go_wp2_with fail
    refine hi.out.mono ?_
    rintro e w' ⟨rfl, rfl⟩
    go_wp2
    go_ret3
    exact ⟨rfl, Below.refl _ _⟩
  · obtain ⟨e1, e2, e3⟩ := Lib.cutB_hit s ⟨#[47]⟩ i hix
    have hx : Lib.indexByte s.data.toList 47 = (i : Int) := by rw [← Lib.index_one]; exact hix
    unfold mkB
    rw [show (⟨#[47]⟩ : ByteArray).data.toList = [47] from rfl] at e1 e2 e3
    rw [e1, e2, e3]
    rw [hx] at hi
    have hr : i + 1 ≤ s.size := hroom
    have c1 : (0 : Int) ≤ (i : Int) := by omega
    have c2 : (i : Int) ≤ (s.size : Int) := by omega
    have c3 : (0 : Int) ≤ (i : Int) + 1 := by omega
    have c4 : (i : Int) + 1 ≤ (s.size : Int) := by omega
    clear e1 e2 e3 hx hix hroom
    go_enter Try.func33, Try.ntmps33
    go_wp2_with fail
    refine hi.out.mono ?_
    rintro e w' ⟨rfl, rfl⟩
    go_wp2_with fail
    go_region
    go_wp2
    go_ret3
    exact ⟨rfl, (Below.refl _ _).drew⟩
theorem cut_calls (x : List UInt8) (w : World) (hs : x.length ≤ 100000) : Calls Try.prog 24 #[.string (mkB x), .string ⟨#[47]⟩] w fun e w' => e = .returned (.tuple #[.string (mkB (Lib.cut x [47]).1), .string (mkB (Lib.cut x [47]).2.1), .bool (Lib.cut x [47]).2.2]) ∧ Below w.heap.size w w' := by
  have h := hidden (cut0_calls (mkB x) w (by rw [mk_size]; exact hs))
  rw [mk_list] at h
  go_enter Try.func24, Try.ntmps24
  go_wp2_with fail
  refine h.out.mono ?_
  rintro e w' ⟨rfl, hb⟩
  replace hb := hidden hb
  go_wp2
  go_ret3
  exact ⟨rfl, hb.out⟩
theorem clone_calls (x : List UInt8) (w : World) (hs : x.length ≤ 100000) : Calls Try.prog 25 #[.string (mkB x)] w fun e w' => e = .returned (.string (mkB x)) ∧ Below w.heap.size w w' := by
  have h := hidden (Try.stringslite_Clone (mkB x) w (by rw [mk_size]; omega))
  go_enter Try.func25, Try.ntmps25
  go_wp2_with fail
  refine h.out.mono ?_
  rintro e w' ⟨rfl, hb⟩
  replace hb := hidden hb
  go_wp2
  go_ret
  exact ⟨rfl, hb.out⟩
end Go.Proofs.Ythibelgeejgmeaa
