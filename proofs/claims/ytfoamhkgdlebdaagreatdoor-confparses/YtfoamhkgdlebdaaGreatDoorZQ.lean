/- ConfParses: the document's own after, blob, Lines. -/
import Derived.Test.YtfoamhkgdlebdaaGreatDoorZP
import Derived.Laws.ResultCell
namespace Go.Proofs.YtfoamhkgdlebdaaGreatDoor
open Go.RowKit Go.Extern.Stop Go.Stop Go.Extern
set_option maxRecDepth 100000

theorem mkq_app (a b : List UInt8) : mkB a ++ mkB b = mkB (a ++ b) := by
  apply ByteArray.ext
  simp [mkB]
theorem mkq_get (x : List UInt8) (k : Nat) (h : k < x.length) (h' : k < (mkB x).size) : (mkB x)[k]'h' = x[k]'h := by
  show (mkB x).data[k]'_ = _
  simp [mkB]
def afterV : Option (List UInt8) → Value
  | some v => .tuple #[.string (mkB v), .bool true]
  | none => .tuple #[.string ⟨#[]⟩, .bool false]
set_option maxHeartbeats 1000000 in
theorem after_calls (s k : List UInt8) (w : World) (_ : s.length ≤ 10000) (hk : k.length ≤ 20) :
    Calls Tryz.prog 34 #[.string (mkB s), .string (mkB k)] w fun e w' => e = .returned (afterV (afterT s k)) ∧ w' = w := by
  have hz : ((mkB s).size : Int) = (s.length : Int) := by rw [mk_size]
  have hzk : ((mkB k).size : Int) = (k.length : Int) := by rw [mk_size]
  have hz2 : (mkB s).size = s.length := mk_size s
  have hzk2 : (mkB k).size = k.length := mk_size k
  by_cases hlt : s.length < k.length + 1
  · have h0 : afterT s k = none := by
      unfold afterT
      rw [if_neg]
      intro e
      have := congrArg List.length e
      simp at this; omega
    have hI : (s.length : Int) < (k.length : Int) + 1 := by omega
    rw [h0]
    clear h0 hlt
    go_enter Tryz.func34, Tryz.ntmps34
    go_wp2
    go_ret2
    exact ⟨rfl, rfl⟩
  · have hI : ¬ (s.length : Int) < (k.length : Int) + 1 := by omega
    have e1 : (mkB s).extract 0 (k.length + 1) = mkB (s.take (k.length + 1)) := by rw [extract_mk]; simp
    have e2 : (mkB s).extract (k.length + 1) s.length = mkB (s.drop (k.length + 1)) := by rw [extract_mk, List.take_length]
    have e3 : mkB k ++ (⟨#[32]⟩ : ByteArray) = mkB (k ++ [32]) := mkq_app k [32]
    have b1 : (0 : Int) ≤ (k.length : Int) + 1 := by omega
    have b2 : (k.length : Int) + 1 ≤ (s.length : Int) := by omega
    have b3 : (k.length : Int) ≤ 20 := by omega
    have t1 : ((k.length : Int) + 1).toNat = k.length + 1 := by omega
    have e4 : ((mkB (s.take (k.length + 1))).toList == (mkB (k ++ [32])).toList) = decide (s.take (k.length + 1) = k ++ [32]) := by rw [mk_toList, mk_toList]; exact Bool.eq_iff_iff.2 (by simp)
    have hsz3 : (mkB k).size + 1 ≤ 100 := by rw [mk_size]; omega
    by_cases hq : s.take (k.length + 1) = k ++ [32]
    · have h0 : afterT s k = some (s.drop (k.length + 1)) := by unfold afterT; rw [if_pos hq]
      rw [decide_eq_true hq] at e4
      rw [h0]
      dsimp only [afterV]
      clear h0 hlt hq
      generalize mkB (s.take (k.length + 1)) = T1 at *
      generalize mkB (s.drop (k.length + 1)) = T2 at *
      generalize mkB (k ++ [32]) = T3 at *
      go_enter Tryz.func34, Tryz.ntmps34
      go_wp2
      go_ret2
      exact ⟨rfl, rfl⟩
    · have h0 : afterT s k = none := by unfold afterT; rw [if_neg hq]
      rw [decide_eq_false hq] at e4
      rw [h0]
      dsimp only [afterV]
      clear h0 hlt hq
      generalize mkB (s.take (k.length + 1)) = T1 at *
      generalize mkB (k ++ [32]) = T3 at *
      go_enter Tryz.func34, Tryz.ntmps34
      go_wp2
      go_ret2
      exact ⟨rfl, rfl⟩
theorem load_bl {w : World} {b : Nat} {p q : ByteArray} (c0 : w.cell? ⟨b, 0, none⟩ = some (.string p)) (c1 : w.cell? ⟨b, 1, none⟩ = some (.string q)) : (loadVar 26 ⟨b, 0, none⟩).run Tryz.prog w = .ok (.agg #[.string p, .string q]) w := by
  go_simp
theorem ret_bl {fn : Func} {p u : Tmp} (h : fn.results = #[.cell p 26, .tmp u]) {tmps : Array Value} {w : World} {b : Nat} {p0 q0 : ByteArray} (hp : tmps.getD p undef = .pointer (some ⟨b, 0, none⟩)) (c0 : w.cell? ⟨b, 0, none⟩ = some (.string p0)) (c1 : w.cell? ⟨b, 1, none⟩ = some (.string q0)) :
    (results fn tmps).run Tryz.prog w = .ok (.tuple #[.agg #[.string p0, .string q0], tmps.getD u undef]) w := by
  rw [results_cell_tmp h, hp]
  simp [asAddr, Result.andThen, load_bl c0 c1]
def rblob (v : List UInt8) : Bl × Bool := if (32 : UInt8) ∈ v then (cutSp v, blobB (cutSp v).1 (cutSp v).2) else (([], []), false)
theorem rblob_T (v : List UInt8) : blobT v = if (rblob v).2 = true then some (rblob v).1 else none := by
  unfold blobT rblob
  by_cases h : (32 : UInt8) ∈ v <;> simp [h]
theorem cut_at {v : List UInt8} {i : Nat} (h : (32 : UInt8) ∉ v.take i) (hi : v[i]? = some 32) : cutSp v = (v.take i, v.drop (i + 1)) := by
  have e : v = v.take i ++ 32 :: v.drop (i + 1) := by
    have hl := (List.getElem?_eq_some_iff.1 hi).1
    have h2 := List.drop_eq_getElem_cons hl
    rw [(List.getElem?_eq_some_iff.1 hi).2] at h2
    rw [← h2, List.take_append_drop]
  rcases sp_parts v with ⟨h1, -⟩ | ⟨a, t, h1, h2, h3⟩
  · exact absurd (List.mem_of_getElem? hi) h1
  · rw [h3]
    have h4 := app_inj h2 h (h1.symm.trans e)
    rw [h4.1, h4.2]
end Go.Proofs.YtfoamhkgdlebdaaGreatDoor
