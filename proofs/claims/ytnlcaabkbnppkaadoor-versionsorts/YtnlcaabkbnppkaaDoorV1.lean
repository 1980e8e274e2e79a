/- version's run, class and next, as the tokens' words have it. -/
import Derived.Test.YtnlcaabkbnppkaaDoorV0
import Derived.Test.YtnlcaabkbnppkaaDoorShelf
import Derived.Test.YtnlcaabkbnppkaaDoorAp
import Derived.Laws.ResultCell
import Derived.Laws.AppendOwn
import Derived.Laws.AppendOwnNone
import Derived.Deep.Heap
import Derived.BigCall
import Derived.Deep.Cut
import Derived.Deep.CutBlock
import Derived.Deep.CutRange
import Derived.Lib.TrimByte
namespace Go.Proofs.YtnlcaabkbnppkaaDoor
open Go Go.RowKit
set_option maxRecDepth 100000

theorem lt_of_cell {w : World} {a : Addr} {v : Value} (h : w.cell? a = some v) : a.block < w.heap.size := by
  rcases Nat.lt_or_ge a.block w.heap.size with h1 | h1
  · exact h1
  · simp [World.cell?, Array.getElem?_eq_none h1] at h
def clsZ (z : Int) : Int := if 97 ≤ z ∧ z ≤ 122 then 2 else if 65 ≤ z ∧ z ≤ 90 then 2 else if 48 ≤ z ∧ z ≤ 57 then 3 else if z = 126 then 0 else 1
theorem clsZ_of (c : UInt8) : ((clsB c : Nat) : Int) = clsZ (c.toNat : Int) := by
  unfold clsB clsZ
  repeat' split
  all_goals first | rfl | (exfalso; omega)
set_option maxHeartbeats 4000000 in
theorem class_calls (c : UInt8) (w : World) : Calls Tryd.prog 23 #[.int .u8 (c.toNat : Int)] w fun e w' => e = .returned (.int .i64 (clsB c : Int)) ∧ w' = w := by
  rw [clsZ_of]
  unfold clsZ
  generalize (c.toNat : Int) = z
  by_cases a1 : (97 : Int) ≤ z <;> by_cases a2 : z ≤ 122 <;> by_cases b1 : (65 : Int) ≤ z <;> by_cases b2 : z ≤ 90 <;> by_cases c1 : (48 : Int) ≤ z <;> by_cases c2 : z ≤ 57 <;> by_cases d1 : z = 126
  all_goals first
    | (exfalso; omega)
    | (simp only [a1, a2, b1, b2, c1, c2, d1, and_true, and_false, if_true, if_false]
       go_enter Tryd.func23, Tryd.ntmps23
       go_wp2
       go_ret
       exact ⟨rfl, rfl⟩)
theorem take_while_succ (p : UInt8 → Bool) (l : List UInt8) (n : Nat) (c : UInt8) (h : l[n]? = some c) : (l.drop n).takeWhile p = if p c = true then c :: (l.drop (n + 1)).takeWhile p else [] := by
  obtain ⟨hl, rfl⟩ := List.getElem?_eq_some_iff.1 h
  rw [List.drop_eq_getElem_cons hl, List.takeWhile_cons]
set_option maxHeartbeats 4000000 in
theorem run0_calls (s : ByteArray) (k : Nat) (w : World) (hs : s.size ≤ 1000000) : Calls Tryd.prog 22 #[.string s, .int .i64 (k : Int)] w fun e w' => e = .returned (.int .i64 ((s.data.toList.takeWhile (fun c => clsB c == k)).length : Int)) ∧ w' = w := by
  have hl : s.data.toList.length = s.size := Array.length_toList
  go_enter Tryd.func22, Tryd.ntmps22
  go_wp2_with fail
  go_loopg [5] s.size (fun g i wr => ∃ n : Nat, n ≤ s.size ∧ g = s.size - n ∧ i = .int .i64 (n : Int) ∧ wr = w ∧ (s.data.toList.takeWhile (fun c => clsB c == k)).length = n + ((s.data.toList.drop n).takeWhile (fun c => clsB c == k)).length)
  case atStart => exact ⟨0, Nat.zero_le _, rfl, rfl, rfl, by simp⟩
  case round =>
    obtain ⟨n, hn, hg, rfl, rfl, hall⟩ := hrel
    replace hg := hidden hg
    replace hall := hidden hall
    by_cases hlt : n < s.size
    · have hb := hidden (take_while_succ (fun c => clsB c == k) _ _ _ (get_byte s n hlt))
      have kS := hidden (class_calls (s[n]'hlt) wr)
      replace hl := hidden hl
      go_wp2_with fail
      refine kS.out.mono ?_
      rintro e w' ⟨rfl, rfl⟩
      by_cases hx : ((clsB (s[n]'hlt) : Nat) : Int) = (k : Int)
      · go_wp2
        go_roundg (s.size - (n + 1))
        case measure => rw [hg.out]; omega
        case rel =>
          refine ⟨n + 1, hlt, rfl, by simp, rfl, ?_⟩
          rw [hall.out, hb.out, if_pos (by simp; omega)]; simp; omega
      · go_wp2
        go_ret
        refine ⟨?_, rfl⟩
        rw [hall.out, hb.out, if_neg (by simp; omega)]; simp
    · obtain rfl : n = s.size := by omega
      go_wp2
      go_ret
      refine ⟨?_, rfl⟩
      have h := hall.out
      rw [List.drop_of_length_le (by omega)] at h
      rw [h]; rfl
theorem run_calls (x : List UInt8) (k : Nat) (w : World) (hs : x.length ≤ 1000000) : Calls Tryd.prog 22 #[.string (mkB x), .int .i64 (k : Int)] w fun e w' => e = .returned (.int .i64 ((x.takeWhile (fun c => clsB c == k)).length : Int)) ∧ w' = w := by
  have h := run0_calls (mkB x) k w (by rw [mk_size]; exact hs)
  rw [mk_list] at h
  exact h

/-! a token in memory -/
def tokV (t : Tok) : Value := .agg #[.int .i64 (t.1 : Int), .string (mkB t.2)]
structure TkAt (w : World) (b : Nat) (t : Tok) : Prop where
  c0 : w.cell? ⟨b, 0, none⟩ = some (.int .i64 (t.1 : Int))
  c1 : w.cell? ⟨b, 1, none⟩ = some (.string (mkB t.2))
theorem TkAt.lt {w : World} {b : Nat} {t : Tok} (h : TkAt w b t) : b < w.heap.size := lt_of_cell (a := ⟨b, 0, none⟩) h.c0
theorem TkAt.keep {w w' : World} {b : Nat} {t : Tok} {bs : List Nat} (h : TkAt w b t) (ha : Apart bs w w') (hn : b ∉ bs) : TkAt w' b t :=
  ⟨(ha.cell (p := ⟨b, 0, none⟩) h.lt hn).trans h.c0, (ha.cell (p := ⟨b, 1, none⟩) h.lt hn).trans h.c1⟩
theorem TkAt.below {w w' : World} {b : Nat} {t : Tok} (h : TkAt w b t) (hb : Below w.heap.size w w') : TkAt w' b t := h.keep (Apart.of_below (bs := []) hb) (by simp)
theorem load_tk {w : World} {b : Nat} {t : Tok} (h : TkAt w b t) : (loadVar 32 ⟨b, 0, none⟩).run Tryd.prog w = .ok (tokV t) w := by
  have c0 := h.c0
  have c1 := h.c1
  clear h
  unfold tokV
  go_simp
theorem ret_tk {fn : Func} {p u : Tmp} (h : fn.results = #[.cell p 32, .tmp u]) {tmps : Array Value} {w : World} {b : Nat} {t : Tok} (hp : tmps.getD p undef = .pointer (some ⟨b, 0, none⟩)) (hn : TkAt w b t) :
    (results fn tmps).run Tryd.prog w = .ok (.tuple #[tokV t, tmps.getD u undef]) w := by
  rw [results_cell_tmp h, hp]
  simp [asAddr, Result.andThen, load_tk hn]
end Go.Proofs.YtnlcaabkbnppkaaDoor
