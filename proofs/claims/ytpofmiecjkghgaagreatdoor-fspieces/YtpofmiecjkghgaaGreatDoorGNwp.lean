/- Names as rows of bytes: which may be. -/
import Derived.Test.YtpofmiecjkghgaaGreatDoorGAsp
import Derived.WalkKit
import Derived.WalkSpells
import Derived.ProofKit
import Derived.OpenShut
import Derived.RowKitTokens
import Derived.Deep.LoopGhost
import Derived.Deep.RegionWith
import Derived.Lib.IndexMore
import Derived.Lib.IndexBytes
import Derived.Lib.Join
import Derived.Lib.Bytealg
import Derived.Lib.IndexEntry
import Derived.Laws.Externs
import Derived.Test.YtpofmiecjkghgaaGreatDoorGJop
import Derived.Laws.AppendOwn
import Derived.Deep.CutBlock
namespace Go.Proofs.YtpofmiecjkghgaaGreatDoor
open Go.RowKit Go.Extern.Stop Go.Stop Go.Extern
set_option maxRecDepth 100000
set_option maxHeartbeats 4000000
def signB (c : UInt8) : Bool := (decide (97 <= c.toNat) && decide (c.toNat <= 122)) || (decide (65 <= c.toNat) && decide (c.toNat <= 90)) || (decide (48 <= c.toNat) && decide (c.toNat <= 57)) || c == 46 || c == 43 || c == 45 || c == 95 || c == 126
def okB (s : List UInt8) : Bool := decide (1 <= s.length) && decide (s.length <= 27) && !(s == [46]) && !(s == [46, 46]) && s.all signB
end Go.Proofs.YtpofmiecjkghgaaGreatDoor
namespace Go.Proofs.YtpofmiecjkghgaaGreatDoor
open Go Go.RowKit Go.Extern.Stop Go.Stop Go.Extern
set_option maxRecDepth 100000
set_option maxHeartbeats 4000000
theorem ix_sign (c : UInt8) : decide (0 <= Lib.indexByte [46, 43, 45, 95, 126] c) = (c == 46 || c == 43 || c == 45 || c == 95 || c == 126) := by
  simp only [Lib.indexByte]
  have f : ∀ a : UInt8, (a == c) = (c == a) := fun a => BEq.comm
  simp only [f]
  cases h1 : (c == 46) <;> cases h2 : (c == 43) <;> cases h3 : (c == 45) <;> cases h4 : (c == 95) <;> cases h5 : (c == 126) <;> simp
theorem stringslite_indexByte (s : ByteArray) (c : UInt8) (w : World) : Calls Tryz.prog 272 #[.string s, .int .u8 (c.toNat : Int)] w fun e w' => e = .returned (.int .i64 (Lib.indexByte s.data.toList c)) /\ w' = w := by
  go_enter Tryz.func272, Tryz.ntmps272
  go_wp2
  rw [run_callFunc_extern Tryz.func311 (by kernel_rfl) (by kernel_rfl) (by kernel_rfl) (e := Extern.BytealgIndexByte.indexByte) (by kernel_rfl), Lib.run_indexByteString]
  simp only [Result.andThen]
  rw [Oper.upon_value]
  go_wp2
  go_ret
  exact ⟨rfl, rfl⟩
theorem indexByte_calls (s : ByteArray) (c : UInt8) (w : World) : Calls Tryz.prog 230 #[.string s, .int .u8 (c.toNat : Int)] w fun e w' => e = .returned (.int .i64 (Lib.indexByte s.data.toList c)) /\ w' = w := by
  have hin := stringslite_indexByte s c w
  go_enter Tryz.func230, Tryz.ntmps230
  go_wp2_with fail
  refine hin.mono ?_
  rintro e w' ⟨rfl, rfl⟩
  go_wp2
  go_ret
  exact ⟨rfl, rfl⟩
theorem sign_calls (c : UInt8) (w : World) : Calls Tryz.prog 180 #[.int .u8 (c.toNat : Int)] w fun e w' => e = .returned (.bool (signB c)) /\ w' = w := by
  by_cases h1 : 97 <= c.toNat /\ c.toNat <= 122
  · have a1 : (97 : Int) <= (c.toNat : Int) := by omega
    have a2 : (c.toNat : Int) <= 122 := by omega
    have e : signB c = true := by simp [signB, h1]
    rw [e]; clear e h1
    go_enter Tryz.func180, Tryz.ntmps180
    go_wp2
    go_ret
    exact ⟨rfl, rfl⟩
  · by_cases h2 : 65 <= c.toNat /\ c.toNat <= 90
    · have a1 : ¬ (97 : Int) <= (c.toNat : Int) := by omega
      have b1 : (65 : Int) <= (c.toNat : Int) := by omega
      have b2 : (c.toNat : Int) <= 90 := by omega
      have e : signB c = true := by simp [signB, h2]
      rw [e]; clear e h1 h2
      go_enter Tryz.func180, Tryz.ntmps180
      go_wp2
      go_ret
      exact ⟨rfl, rfl⟩
    · by_cases h3 : 48 <= c.toNat /\ c.toNat <= 57
      · have a1 : ¬ (97 : Int) <= (c.toNat : Int) := by omega
        have b1 : ¬ (65 : Int) <= (c.toNat : Int) := by omega
        have c1 : (48 : Int) <= (c.toNat : Int) := by omega
        have c2 : (c.toNat : Int) <= 57 := by omega
        have e : signB c = true := by simp [signB, h3]
        rw [e]; clear e h1 h2 h3
        go_enter Tryz.func180, Tryz.ntmps180
        go_wp2
        go_ret
        exact ⟨rfl, rfl⟩
      · have e : signB c = decide (0 <= Lib.indexByte [46, 43, 45, 95, 126] c) := by
          rw [ix_sign]
          have f1 : (decide (97 <= c.toNat) && decide (c.toNat <= 122)) = false := by simpa using h1
          have f2 : (decide (65 <= c.toNat) && decide (c.toNat <= 90)) = false := by simpa using h2
          have f3 : (decide (48 <= c.toNat) && decide (c.toNat <= 57)) = false := by simpa using h3
          simp only [signB, f1, f2, f3, Bool.false_or]
        rw [e]; clear e
        have kI := hidden (indexByte_calls ⟨#[46, 43, 45, 95, 126]⟩ c w)
        by_cases a1 : (97 : Int) <= (c.toNat : Int)
        · have a2 : ¬ (c.toNat : Int) <= 122 := by omega
          have b1 : (65 : Int) <= (c.toNat : Int) := by omega
          have b2 : ¬ (c.toNat : Int) <= 90 := by omega
          have c1 : (48 : Int) <= (c.toNat : Int) := by omega
          have c2 : ¬ (c.toNat : Int) <= 57 := by omega
          clear h1 h2 h3
          go_enter Tryz.func180, Tryz.ntmps180
          go_wp2_with fail
          refine kI.out.mono ?_
          rintro e w' ⟨rfl, rfl⟩
          by_cases hx : 0 <= Lib.indexByte [46, 43, 45, 95, 126] c
          · go_wp2
            go_ret
            exact ⟨by simp [hx], rfl⟩
          · go_wp2
            go_ret
            exact ⟨by simp [hx], rfl⟩
        · by_cases b1 : (65 : Int) <= (c.toNat : Int)
          · have b2 : ¬ (c.toNat : Int) <= 90 := by omega
            have c1 : (48 : Int) <= (c.toNat : Int) := by omega
            have c2 : ¬ (c.toNat : Int) <= 57 := by omega
            clear h1 h2 h3
            go_enter Tryz.func180, Tryz.ntmps180
            go_wp2_with fail
            refine kI.out.mono ?_
            rintro e w' ⟨rfl, rfl⟩
            by_cases hx : 0 <= Lib.indexByte [46, 43, 45, 95, 126] c
            · go_wp2
              go_ret
              exact ⟨by simp [hx], rfl⟩
            · go_wp2
              go_ret
              exact ⟨by simp [hx], rfl⟩
          · by_cases c1 : (48 : Int) <= (c.toNat : Int)
            · have c2 : ¬ (c.toNat : Int) <= 57 := by omega
              clear h1 h2 h3
              go_enter Tryz.func180, Tryz.ntmps180
              go_wp2_with fail
              refine kI.out.mono ?_
              rintro e w' ⟨rfl, rfl⟩
              by_cases hx : 0 <= Lib.indexByte [46, 43, 45, 95, 126] c
              · go_wp2
                go_ret
                exact ⟨by simp [hx], rfl⟩
              · go_wp2
                go_ret
                exact ⟨by simp [hx], rfl⟩
            · clear h1 h2 h3
              go_enter Tryz.func180, Tryz.ntmps180
              go_wp2_with fail
              refine kI.out.mono ?_
              rintro e w' ⟨rfl, rfl⟩
              by_cases hx : 0 <= Lib.indexByte [46, 43, 45, 95, 126] c
              · go_wp2
                go_ret
                exact ⟨by simp [hx], rfl⟩
              · go_wp2
                go_ret
                exact ⟨by simp [hx], rfl⟩
theorem len_size (s : ByteArray) : s.data.toList.length = s.size := Array.length_toList
theorem get_byte (s : ByteArray) (k : Nat) (h : k < s.size) : s.data.toList[k]? = some (s[k]'h) := by
  rw [Array.getElem?_toList]
  exact Array.getElem?_eq_getElem h
theorem all_take_succ (s : ByteArray) (k : Nat) (h : k < s.size) : (s.data.toList.take (k + 1)).all signB = ((s.data.toList.take k).all signB && signB (s[k]'h)) := by
  have hb := get_byte s k h
  rw [List.take_add_one, hb]
  simp
theorem all_at {l : List UInt8} {k : Nat} {c : UInt8} (h : l[k]? = some c) (hc : signB c = false) : l.all signB = false := by
  rw [List.all_eq_false]
  exact ⟨c, List.mem_of_getElem? h, by simp [hc]⟩
theorem ok_tests (s : ByteArray) : okB s.data.toList = (!(s.toList.isEmpty || decide ((27 : Int) < (s.size : Int)) || s.toList == [46] || s.toList == [46, 46]) && s.data.toList.all signB) := by
  rw [Lib.toList_data, okB, len_size]
  have e1 : decide (1 <= s.size) = !s.data.toList.isEmpty := by
    have := len_size s
    cases h : s.data.toList with
    | nil => rw [h] at this; simp at this; simp [<- this]
    | cons c r => rw [h] at this; simp at this; simp [<- this]
  have e2 : decide (s.size <= 27) = !decide ((27 : Int) < (s.size : Int)) := by
    by_cases h : s.size <= 27
    · have : ¬ (27 : Int) < (s.size : Int) := by omega
      simp only [h, this, decide_true, decide_false, Bool.not_false]
    · have : (27 : Int) < (s.size : Int) := by omega
      simp [h, this]
  rw [e1, e2]
  simp [Bool.not_or, Bool.and_assoc]
theorem ok_calls (s : ByteArray) (w : World) : Calls Tryz.prog 131 #[.string s] w fun e w' => e = .returned (.bool (okB s.data.toList)) /\ w' = w := by
  have ht := ok_tests s
  by_cases h0 : s.toList.isEmpty = true
  · have e : okB s.data.toList = false := by rw [ht, h0]; rfl
    rw [e]; clear ht e
    go_enter Tryz.func131, Tryz.ntmps131
    go_wp2
    go_ret
    exact ⟨rfl, rfl⟩
  replace h0 : s.toList.isEmpty = false := by simpa using h0
  by_cases h1 : (27 : Int) < (s.size : Int)
  · have e : okB s.data.toList = false := by rw [ht]; simp [h1]
    rw [e]; clear ht e
    go_enter Tryz.func131, Tryz.ntmps131
    go_wp2
    go_ret
    exact ⟨rfl, rfl⟩
  by_cases h2 : (s.toList == [46]) = true
  · have e : okB s.data.toList = false := by rw [ht]; simp [h2]
    rw [e]; clear ht e
    go_enter Tryz.func131, Tryz.ntmps131
    go_wp2
    go_ret
    exact ⟨rfl, rfl⟩
  replace h2 : (s.toList == [46]) = false := by simpa using h2
  by_cases h3 : (s.toList == [46, 46]) = true
  · have e : okB s.data.toList = false := by rw [ht]; simp [h3]
    rw [e]; clear ht e
    go_enter Tryz.func131, Tryz.ntmps131
    go_wp2
    go_ret
    exact ⟨rfl, rfl⟩
  replace h3 : (s.toList == [46, 46]) = false := by simpa using h3
  have e : okB s.data.toList = s.data.toList.all signB := by rw [ht, h0, h2, h3]; simp [h1]
  have hsz : s.size <= 27 := by omega
  rw [e]; clear ht e
  go_enter Tryz.func131, Tryz.ntmps131
  go_wp2_with fail
  clear h0 h2 h3
  go_loopg [21] s.size (fun g i wr => ∃ k : Nat, k <= s.size /\ g = s.size - k /\ i = .int .i64 (k : Int) /\ wr = w /\ (s.data.toList.take k).all signB = true)
  case atStart => exact ⟨0, Nat.zero_le _, rfl, rfl, rfl, rfl⟩
  case round =>
    obtain ⟨k, hk, hg, rfl, rfl, hall⟩ := hrel
    replace hg := hidden hg
    replace hall := hidden hall
    by_cases hlt : k < s.size
    · have hn := hidden (all_take_succ s k hlt)
      have hb := hidden (get_byte s k hlt)
      have kS := hidden (sign_calls (s[k]'hlt) wr)
      go_wp2_with fail
      refine kS.out.mono ?_
      rintro e w' ⟨rfl, rfl⟩
      cases hx : signB (s[k]'hlt)
      · go_wp2
        go_ret
        exact ⟨by rw [all_at hb.out hx]; rfl, rfl⟩
      · go_wp2
        go_roundg (s.size - (k + 1))
        case measure => rw [hg.out]; omega
        case rel => exact ⟨k + 1, hlt, rfl, by simp, rfl, by rw [hn.out, hall.out, hx]; rfl⟩
    · obtain rfl : k = s.size := by omega
      go_wp2
      go_ret
      refine ⟨?_, rfl⟩
      have h := hall.out
      rw [<- len_size, List.take_length] at h
      rw [h]; rfl
def mkB (x : List UInt8) : ByteArray := ⟨x.toArray⟩
theorem mk_list (x : List UInt8) : (mkB x).data.toList = x := by simp [mkB]
theorem mk_size (x : List UInt8) : (mkB x).size = x.length := by simp [mkB, ByteArray.size]
theorem mk_back (s : ByteArray) : mkB s.data.toList = s := by cases s; simp [mkB]
theorem mk_toList (x : List UInt8) : (mkB x).toList = x := by rw [Lib.toList_data, mk_list]
def encT (x : List UInt8) : Value := .string (mkB x)
def TxtsAt (w : World) (v : Value) (l : List (List UInt8)) : Prop := ∃ a cap, v = .slice a l.length cap /\ l.length <= cap /\ (l ≠ [] -> ∃ b off, a = some ⟨b, off, none⟩ /\ b < w.heap.size /\ ∀ k x, l[k]? = some x -> w.cell? ⟨b, off + k, none⟩ = some (.string (mkB x)))
theorem TxtsAt.nil (w : World) (a : Option Addr) (cap : Nat) : TxtsAt w (.slice a 0 cap) [] := ⟨a, cap, rfl, Nat.zero_le _, fun h => absurd rfl h⟩
theorem TxtsAt.below {w w' : World} {v : Value} {l : List (List UInt8)} (h : TxtsAt w v l) (hb : Below w.heap.size w w') : TxtsAt w' v l := by
  obtain ⟨a, cap, hv, hl, hc⟩ := h
  refine ⟨a, cap, hv, hl, fun hn => ?_⟩
  obtain ⟨b, off, ha, hlt, hx⟩ := hc hn
  exact ⟨b, off, ha, Nat.lt_of_lt_of_le hlt hb.size, fun k x hk => (hb.cell (p := ⟨b, off + k, none⟩) hlt).trans (hx k x hk)⟩
theorem TxtsAt.take {w : World} {a : Option Addr} {n cap : Nat} {l : List (List UInt8)} (h : TxtsAt w (.slice a n cap) l) (k : Nat) (hk : k <= l.length) : TxtsAt w (.slice a k cap) (l.take k) := by
  obtain ⟨a', cap', hv, hl, hc⟩ := h
  cases hv
  have e : (l.take k).length = k := by rw [List.length_take]; omega
  refine ⟨a, cap, by rw [e], by omega, fun hn => ?_⟩
  obtain ⟨b, off, ha, hlt, hx⟩ := hc (by rintro rfl; simp at hn)
  refine ⟨b, off, ha, hlt, fun j x hj => hx j x ?_⟩
  rw [List.getElem?_take] at hj
  split at hj
  · exact hj
  · cases hj
structure KeptT (base : Nat) (w : World) (v : Value) (l : List (List UInt8)) : Prop where
  row : w.ownsRow base 9 1 v l.length (l.map encT)
theorem KeptT.nil (base : Nat) (w : World) : KeptT base w (.slice none 0 0) [] := ⟨World.ownsRow_nil w base _ _⟩
theorem KeptT.below {base : Nat} {w w' : World} {v : Value} {l : List (List UInt8)} (h : KeptT base w v l) (hb : Below w.heap.size w w') : KeptT base w' v l := by
  refine ⟨h.row.1, ?_⟩
  rcases h.row.2 with h0 | ⟨g, cap, cur, hv, h1, hh, rest⟩
  · exact Or.inl h0
  · have hlt : g < w.heap.size := by
      rcases Nat.lt_or_ge g w.heap.size with h | h
      · exact h
      · rw [Array.getElem?_eq_none h] at hh; cases hh
    exact Or.inr ⟨g, cap, cur, hv, h1, (hb.block g hlt).trans hh, rest⟩
theorem KeptT.at {base : Nat} {w : World} {v : Value} {l : List (List UInt8)} (h : KeptT base w v l) : TxtsAt w v l := by
  rcases h.row.2 with ⟨rfl, h0⟩ | ⟨g', cap', cur, rfl, h1, hh, h2, h3, h4, h5⟩
  · obtain rfl := List.length_eq_zero_iff.1 h0
    exact TxtsAt.nil _ _ _
  · refine ⟨_, cap', rfl, ?_, fun _ => ⟨g', 0, rfl, ?_, fun k x hk => ?_⟩⟩
    · exact h2
    · rcases Nat.lt_or_ge g' w.heap.size with h | h
      · exact h
      · rw [Array.getElem?_eq_none h] at hh; cases hh
    · obtain ⟨hk', hx⟩ := List.getElem?_eq_some_iff.1 hk
      have hc := h.row.cellAt k (by omega)
      rw [Nat.zero_add, hc]
      simp [hk, encT]
theorem Tryz.infoStr : (Tryz.prog.info? 9).map (fun i => (i.zero, i.size, i.bytes)) = some (some (.string ⟨#[]⟩), 1, 16) := by kernel_rfl
theorem keptT_append {base : Nat} {w : World} {v : Value} {l : List (List UInt8)} (h : KeptT base w v l) (a : Addr) (c : Nat) (x : List UInt8) (hc : w.cell? a = some (.string (mkB x))) (hn : l.length <= 1000) (hbase : base <= w.heap.size) (ty : TypeId) :
    ∃ v' w', (Builtin.append_ #[50, 50] ty #[v, .slice (some a) 1 c]).run Tryz.prog w = .ok v' w' /\ KeptT base w' v' (l ++ [x]) /\ Below base w w' := by
  obtain ⟨i0, hi, hz0, hz1, hz2⟩ := info_parts3 Tryz.infoStr
  obtain ⟨v', w', hrun, hown, hgrow, -⟩ := run_append_own (P := Tryz.prog) w base 50 ty 9 i0 (.string ⟨#[]⟩) 1 16 Tryz.underlying50 hi hz0 hz1 hz2 (by simp [Value.cells]) (by decide)
    v l.length _ h.row a 1 c [encT x] rfl (fun j u hu => by
      cases j with
      | zero => simp at hu; subst hu; have : a.add 0 = a := by simp [Addr.add]
                rw [this]; exact hc
      | succ j => simp at hu) (by intro u hu; simp at hu; subst hu; rfl) (by unfold maxLen; omega) (by omega) hbase
  refine ⟨v', w', hrun, ⟨?_⟩, (Below.refl base w).grown hgrow hbase (fun k hk => (h.row.lt k hk).1)⟩
  rw [List.length_append, List.map_append]
  exact hown
theorem mk_inj {x y : List UInt8} (h : mkB x = mkB y) : x = y := by rw [<- mk_list x, h, mk_list]
theorem mk_beq (x y : List UInt8) : ((mkB x).toList == (mkB y).toList) = decide (x = y) := by
  rw [mk_toList, mk_toList]
  by_cases h : x = y
  · simp [h]
  · simp [h]
end Go.Proofs.YtpofmiecjkghgaaGreatDoor
