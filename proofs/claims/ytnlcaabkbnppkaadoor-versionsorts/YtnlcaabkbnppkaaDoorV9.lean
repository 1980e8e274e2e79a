/- version.Tokens. -/
import Derived.Test.YtnlcaabkbnppkaaDoorV8
namespace Go.Proofs.YtnlcaabkbnppkaaDoor
open Go Go.RowKit
set_option maxRecDepth 100000

theorem clone_calls (x : List UInt8) (w : World) (hs : x.length ≤ 1000000) : Calls Tryd.prog 11 #[.string (mkB x)] w fun e w' => e = .returned (.string (mkB x)) ∧ Below w.heap.size w w' := by
  have h := hidden (Tryd.stringslite_Clone (mkB x) w (by rw [mk_size]; omega))
  go_enter Tryd.func11, Tryd.ntmps11
  go_wp2_with fail
  refine h.out.mono ?_
  rintro e w' ⟨rfl, hb⟩
  replace hb := hidden hb
  go_wp2
  go_ret
  exact ⟨rfl, hb.out⟩
theorem next_tlen (x : List UInt8) : (nextB x).1.2.length ≤ x.length + 1 := by
  unfold nextB
  have h1 := drop_len (fun c => clsB c == 1) x
  split
  · exact Nat.zero_le _
  · rename_i c r h
    rw [h] at h1
    split
    · have h2 := take_len (fun c => clsB c == 3) ((c :: r).dropWhile (· == 48))
      have h3 := drop_len (· == 48) (c :: r)
      show (((c :: r).dropWhile (· == 48)).takeWhile (fun c => clsB c == 3)).length ≤ _
      omega
    · split
      · have h2 := take_len (fun c => clsB c == 2) (c :: r)
        show ((c :: r).takeWhile (fun c => clsB c == 2)).length ≤ _
        omega
      · show (1 : Nat) ≤ _
        omega
/-- What is still to come behind a token that was taken. -/
def comeT (t : Tok) (rest : List UInt8) : List Tok := if t.1 = 1 then [] else t :: toksB rest
theorem come_next (x : List UInt8) : comeT (nextB x).1 (nextB x).2 = toksB x := by
  rcases next_toks x with ⟨h1, _, h3⟩ | ⟨h1, h2, _⟩
  · rw [comeT, if_pos h1, h3]
  · rw [comeT, if_neg h1, h2]
theorem TksAt.form {w : World} {v : Value} {l : List Tok} (h : TksAt w v l) : ∃ a cap, v = .slice a l.length cap := by
  obtain ⟨a, cap, hv, -, -⟩ := h
  exact ⟨a, cap, hv⟩
end Go.Proofs.YtnlcaabkbnppkaaDoor
