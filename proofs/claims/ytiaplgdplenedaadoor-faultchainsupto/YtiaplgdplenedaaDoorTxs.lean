/- FaultTexts answers true for texts of together at most a million million bytes, and changes nothing that was there. -/
import Derived.Test.YtiaplgdplenedaaDoorEr
namespace Go.Proofs.YtiaplgdplenedaaDoor
open Go.RowKit Go.Extern.Stop Go.Stop Go.Extern
set_option maxRecDepth 100000

theorem bytes_cat (a b : ByteArray) (l : List UInt8) (h : b = ⟨l.toArray⟩) : a ++ b = ⟨(a.data.toList ++ l).toArray⟩ := by
  subst h
  apply ByteArray.ext
  simp
theorem head_empty (op nm : ByteArray) (h : nm.toList.isEmpty = true) (r : List UInt8) : (⟨(faultText (op, nm) ++ r).toArray⟩ : ByteArray) = op ++ ⟨#[58, 32]⟩ ++ ⟨r.toArray⟩ := by
  apply ByteArray.ext
  simp [faultText, h]
theorem head_named (op nm : ByteArray) (h : nm.toList.isEmpty = false) (r : List UInt8) : (⟨(faultText (op, nm) ++ r).toArray⟩ : ByteArray) = op ++ ⟨#[32]⟩ ++ nm ++ ⟨#[58, 32]⟩ ++ ⟨r.toArray⟩ := by
  apply ByteArray.ext
  simp [faultText, h]

/-- The text of a chain of at most a hundred Faults. -/
theorem text_short (n : Int) (h0 : -9223372036854775808 ≤ n) (h1 : n ≤ 9223372036854775807) (w : World) (l : List (ByteArray × ByteArray)) (e : Value) (hc : Chain w l (num n) e) (hl : l.length ≤ 100) (hg : GT w) (ht : PT w)
    (hlen : (chainText l).length ≤ 1099511627776) :
    Calls Tryd.prog 13 #[e] w fun ev w' => ev = .returned (.string ⟨(chainText l ++ (errHead ++ Lib.itoa n)).toArray⟩) ∧ Below w.heap.size w w' := by
  have hi := Lib.itoa_length_le n h0 h1
  have hm : min l.length 100 = l.length := Nat.min_eq_left hl
  have hlen' : (chainText (l.take (min l.length 100))).length + (errHead ++ Lib.itoa n).length ≤ 140737488355328 := by
    rw [hm, List.take_length, List.length_append]
    have : errHead.length = 6 := rfl
    omega
  have h := text_chain n w l e (errHead ++ Lib.itoa n) hc (by omega) hg hlen' (fun w1 h1' => errno_any n h0 h1 w1 (ht.below h1'))
  rw [hm, List.take_length] at h
  exact h

theorem zip_take_len (os ns : List ByteArray) (k : Nat) (hk : min (min os.length ns.length) 30 = k) : ((os.zip ns).take k).length = k := by
  simp; omega
end Go.Proofs.YtiaplgdplenedaaDoor
