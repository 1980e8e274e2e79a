/- The journal's note. -/
import Derived.Test.YtildpgingcmfcaaDoorJp1
namespace Go.Proofs.YtildpgingcmfcaaDoor
open Go.RowKit Go.Extern.Stop Go.Stop Go.Extern
set_option maxRecDepth 100000

theorem note_len (at_ : Nat) (l : Grp) : (noteWs at_ l).length = size l + 1 := by simp [noteWs, bodyWs]
theorem note_take (at_ : Nat) (l : Grp) (k : Nat) (hk : k < size l) : (noteWs at_ l).take (k + 1) = (noteWs at_ l).take k ++ [(at_ + 1 + k, chunk (bodyL l) k)] := by
  rw [List.take_succ_eq_append_getElem (by rw [note_len]; omega)]
  congr 2
  have hb : k < (bodyWs at_ l (size l)).length := by simp [bodyWs]; exact hk
  simp only [noteWs]
  rw [List.getElem_append_left hb]
  simp [bodyWs]
theorem note_last (at_ : Nat) (l : Grp) : noteWs at_ l = (noteWs at_ l).take (size l) ++ [(at_, headG l)] := by
  have hb : (bodyWs at_ l (size l)).length = size l := by simp [bodyWs]
  have e : (noteWs at_ l).take (size l) = bodyWs at_ l (size l) := by rw [noteWs, List.take_append_of_le_length (by rw [hb]; exact Nat.le_refl _), List.take_of_length_le (by rw [hb]; exact Nat.le_refl _)]
  rw [e]
  rfl
theorem wrap_pos (z : Int) (h0 : 0 ≤ z) (h1 : z < 4611686018427387904) : IntKind.i64.wrap z = z := by
  have h4 : z % (2 ^ 64 : Int) = z := by omega
  simp only [IntKind.wrap, IntKind.bits, IntKind.signed, h4]
  rw [if_neg (by simp; omega)]
end Go.Proofs.YtildpgingcmfcaaDoor
