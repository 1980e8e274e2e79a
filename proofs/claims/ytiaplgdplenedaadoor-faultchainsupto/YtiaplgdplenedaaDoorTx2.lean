/- fault.Text: the one line of a chain. -/
import Derived.Test.YtiaplgdplenedaaDoorTx
namespace Go.Proofs.YtiaplgdplenedaaDoor
open Go.RowKit Go.Extern.Stop Go.Stop Go.Extern
set_option maxRecDepth 100000

/-- One Fault's part of the line. -/
def faultText (p : ByteArray × ByteArray) : List UInt8 := p.1.data.toList ++ (if p.2.toList.isEmpty then [] else 32 :: p.2.data.toList) ++ [58, 32]
def chainText (l : List (ByteArray × ByteArray)) : List UInt8 := l.flatMap faultText
theorem chainText_snoc (l : List (ByteArray × ByteArray)) (p : ByteArray × ByteArray) : chainText (l ++ [p]) = chainText l ++ faultText p := by simp [chainText]
theorem chainText_le (l : List (ByteArray × ByteArray)) (k m : Nat) (h : k ≤ m) : (chainText (l.take k)).length ≤ (chainText (l.take m)).length := by
  have e : l.take k = (l.take m).take k := by rw [List.take_take, Nat.min_eq_left h]
  have e2 : chainText (l.take m) = chainText ((l.take m).take k) ++ chainText ((l.take m).drop k) := by
    rw [chainText, chainText, chainText, ← List.flatMap_append, List.take_append_drop]
  rw [e, e2, List.length_append]
  omega

abbrev bW (w : World) : World := w.alloc (.cells #[.pointer none, .slice none 0 0] 52)
theorem bW_below (w : World) : Below w.heap.size w (bW w) := (Below.refl _ _).alloc (Nat.le_refl _) _

set_option maxHeartbeats 2000000 in
theorem text_low (w : World) (l : List (ByteArray × ByteArray)) (bs : List Nat) (u : TypeId) (v : Value) (m : Nat) (n : Int) (t : List UInt8) (hm : m ≤ 100) (hml : m ≤ l.length)
    (hlen : (chainText (l.take m)).length + t.length ≤ 140737488355328)
    (hnth : Hid (∀ k (hk : k < l.length), ∃ b, bs[k]? = some b ∧ b < w.heap.size ∧ w.cell? ⟨b, 0, none⟩ = some (.string l[k].1) ∧ w.cell? ⟨b, 1, none⟩ = some (.string l[k].2)))
    (hfs : Hid (Calls Tryd.prog 22 #[.iface u v] (bW w) fun ev w' => ∃ v, ev = .returned v ∧ w'.ownsRow (bW w).heap.size 43 1 v m (pts (bs.take m)) ∧ Below (bW w).heap.size (bW w) w'))
    (hnum : Hid (∀ w1, Below w.heap.size w w1 → Calls Tryd.prog 14 #[.iface u v] w1 fun ev w' => ev = .returned (.int .i64 n) ∧ Below w1.heap.size w1 w'))
    (herr : Hid (∀ w1, Below w.heap.size w w1 → Calls Tryd.prog 19 #[.int .i64 n] w1 fun ev w' => ev = .returned (.string ⟨t.toArray⟩) ∧ Below w1.heap.size w1 w')) :
    Calls Tryd.prog 13 #[.iface u v] w fun ev w' => ev = .returned (.string ⟨(chainText (l.take m) ++ t).toArray⟩) ∧ Below w.heap.size w w' := by
  go_enter Tryd.func13, Tryd.ntmps13
  go_wp2_with fail
  refine (hfs.out).mono ?_
  rintro ev w1 ⟨fv, rfl, hown, hB1⟩
  clear hfs
  have hsz : (bW w).heap.size = w.heap.size + 1 := by simp
  have hs1 : w.heap.size + 1 ≤ w1.heap.size := by have := hB1.size; rw [hsz] at this; exact this
  rw [hsz] at hown hB1
  have hIs1 := hidden ((fresh_builder w).below (by rw [hsz]; exact hB1))
  have hB1 : Below w.heap.size w w1 := (bW_below w).trans (hB1.mono (by omega))
  obtain ⟨sa, cap, rfl⟩ := owned_shape hown
  replace hown := hidden hown
  go_wp2_with fail
  go_loopg [11] m (fun kk i wr => ∃ k : Nat, k ≤ m ∧ (∃ q : Int, i = .int .i64 q ∧ q = (k : Int)) ∧ kk = m - k ∧ IsB w.heap.size w.heap.size (Lib.byteCells (chainText (l.take k))) wr ∧ wr.ownsRow (w.heap.size + 1) 43 1 (.slice sa m cap) m (pts (bs.take m)) ∧ Below w.heap.size w wr)
  case atStart => exact ⟨0, Nat.zero_le _, ⟨0, rfl, rfl⟩, by simp, hIs1.out, hown.out, hB1⟩
  case round =>
    obtain ⟨k, hkm, ⟨q, rfl, hq⟩, hkk, hIs, hown, hB2⟩ := hrel
    have hq0 : 0 ≤ q := by omega
    replace hown := hidden hown
    replace hIs := hidden hIs
    replace hkk := hidden hkk
    by_cases hlt : k < m
    · obtain ⟨g, rfl, hg1, hg2⟩ := owned_addr hown.out (by omega)
      have hkl : k < l.length := by omega
      obtain ⟨b, hb, hbw, hb0, hb1⟩ := hnth.out k hkl
      have hcell : wr.cell? ⟨g, k, none⟩ = some (.pointer (some ⟨b, 0, none⟩)) := by
        rw [hown.out.cellAt k (by omega), List.getElem?_map, List.getElem?_take, if_pos hlt, hb]; rfl
      replace hb0 := (hB2.cell (p := ⟨b, 0, none⟩) hbw).trans hb0
      have hsn := take_snoc l k hkl
      generalize l[k] = p at hb0 hb1 hsn
      obtain ⟨op, nm⟩ := p
      simp only at hb0 hb1
      replace hsn := hidden hsn
      replace hb1 := hidden hb1
      have hq1 : q < (m : Int) := by omega
      obtain rfl : k = q.toNat := by omega
      have hqH := hidden hq
      have hsz2 := hB2.size
      have hkm1 := hidden hlt
      have hlenk := hidden (Nat.le_trans (Nat.add_le_add_right (chainText_le l (q.toNat + 1) m hlt) _) hlen)
      clear hq hb hkl hlt hkm
      have hft : (chainText (l.take (q.toNat + 1))) = chainText (l.take q.toNat) ++ faultText (op, nm) := by rw [hsn.out, chainText_snoc]
      replace hft := hidden hft
      have hall : (chainText (l.take q.toNat)).length + (faultText (op, nm)).length + t.length ≤ 140737488355328 := by
        have h1 := hlenk.out
        rw [hft.out, List.length_append] at h1
        exact h1
      have hbr : b < wr.heap.size := by omega
      have fin : ∀ (w3 w4 : World) (L : List UInt8), Below w.heap.size w w3 → wr.heap.size ≤ w3.heap.size → Lib.OthersKept 5 (some w.heap.size) wr w3 → IsB w.heap.size w.heap.size (Lib.byteCells (L ++ [58, 32])) w4 → Below w.heap.size w3 w4 → Lib.OthersKept 5 (some w.heap.size) w3 w4 → L ++ [58, 32] = chainText (l.take q.toNat) ++ faultText (op, nm) →
          IsB w.heap.size w.heap.size (Lib.byteCells (chainText (l.take (q.toNat + 1)))) w4 ∧ w4.ownsRow (w.heap.size + 1) 43 1 (.slice (some ⟨g, 0, none⟩) m cap) m (pts (bs.take m)) ∧ Below w.heap.size w w4 := fun w3 w4 L h1 _ h2 h3 h4 h5 h6 => by
        rw [hft.out, ← h6]
        exact ⟨h3, ownsRow_others (ownsRow_others hown.out h2 (by omega)) h5 (by omega), h1.trans h4⟩
      replace fin := hidden fin
      go_wp2_with fail
      cases hE : nm.toList.isEmpty with
      | true =>
        have e1 : faultText (op, nm) = op.data.toList ++ [58, 32] := by simp [faultText, hE]
        have e2 : (faultText (op, nm)).length = op.size + 2 := by rw [e1]; simp
        rw [e2] at hall
        replace e1 := hidden e1
        clear e2
        refine (write_bytes w.heap.size w.heap.size _ op _ hIs.out (by omega) hsz2).mono ?_
        rintro ev w3 ⟨rfl, hIs3, hB3, hK3⟩
        have hb13 : w3.cell? ⟨b, 1, none⟩ = some (.string nm) := (hB3.cell (p := ⟨b, 1, none⟩) hbw).trans ((hB2.cell (p := ⟨b, 1, none⟩) hbw).trans hb1.out)
        replace hIs3 := hidden hIs3
        replace hK3 := hidden hK3
        have hs3 := hB3.size
        go_wp2_with fail
        refine (write_bytes w.heap.size w.heap.size _ _ _ hIs3.out (by rw [List.length_append]; have : op.data.toList.length = op.size := by simp
                                                                       have : (⟨#[58, 32]⟩ : ByteArray).size = 2 := rfl
                                                                       omega) (by omega)).mono ?_
        rintro ev w4 ⟨rfl, hIs4, hB4, hK4⟩
        have R := hidden (fin.out _ _ _ (hB2.trans hB3) hs3 hK3.out hIs4 hB4 hK4 (by rw [e1.out]; simp))
        clear hIs4 hK4
        go_wp2
        go_roundg (m - (q.toNat + 1))
        case measure => rw [hkk.out]; have := hkm1.out; omega
        case rel => exact ⟨q.toNat + 1, hkm1.out, ⟨_, rfl, by rw [hqH.out]; simp⟩, rfl, R.out.1, R.out.2.1, R.out.2.2⟩
      | false =>
        have e1 : faultText (op, nm) = op.data.toList ++ (32 :: nm.data.toList) ++ [58, 32] := by simp [faultText, hE]
        have e2 : (faultText (op, nm)).length = op.size + (1 + nm.size) + 2 := by
          rw [e1]; simp; have : op.data.size = op.size := rfl; have : nm.data.size = nm.size := rfl; omega
        rw [e2] at hall
        replace e1 := hidden e1
        clear e2
        have hE' : (!nm.toList.isEmpty) = true := by rw [hE]; rfl
        have l3 : (chainText (l.take q.toNat) ++ op.data.toList ++ (⟨#[32]⟩ : ByteArray).data.toList).length + nm.size ≤ 140737488355328 := by
          have h1 : op.data.size = op.size := rfl
          simp; omega
        have l4 : (chainText (l.take q.toNat) ++ op.data.toList ++ (⟨#[32]⟩ : ByteArray).data.toList ++ nm.data.toList).length + (⟨#[58, 32]⟩ : ByteArray).size ≤ 140737488355328 := by
          have h1 : op.data.size = op.size := rfl
          have h2 : nm.data.size = nm.size := rfl
          have h3 : (⟨#[58, 32]⟩ : ByteArray).size = 2 := rfl
          simp [h3]; omega
        replace l3 := hidden l3
        replace l4 := hidden l4
        have o1 : op.data.toList.length = op.size := by simp
        have o2 : nm.data.toList.length = nm.size := by simp
        refine (write_bytes w.heap.size w.heap.size _ op _ hIs.out (by omega) hsz2).mono ?_
        rintro ev w3 ⟨rfl, hIs3, hB3, hK3⟩
        have hb13 : w3.cell? ⟨b, 1, none⟩ = some (.string nm) := (hB3.cell (p := ⟨b, 1, none⟩) hbw).trans ((hB2.cell (p := ⟨b, 1, none⟩) hbw).trans hb1.out)
        replace hIs3 := hidden hIs3
        replace hK3 := hidden hK3
        have hs3 := hB3.size
        go_wp2_with fail
        refine (write_bytes w.heap.size w.heap.size _ _ _ hIs3.out (by rw [List.length_append]; have : (⟨#[32]⟩ : ByteArray).size = 1 := rfl
                                                                       omega) (by omega)).mono ?_
        rintro ev w4 ⟨rfl, hIs4, hB4, hK4⟩
        have hb14 : w4.cell? ⟨b, 1, none⟩ = some (.string nm) := (hB4.cell (p := ⟨b, 1, none⟩) hbw).trans hb13
        replace hIs4 := hidden hIs4
        replace hK4 := hidden (hK3.out.trans hK4)
        have hs4 := hB4.size
        have hB4' := hB3.trans hB4
        clear hb13 hB4
        go_wp2_with fail
        refine (write_bytes w.heap.size w.heap.size _ nm _ hIs4.out l3.out (by omega)).mono ?_
        rintro ev w5 ⟨rfl, hIs5, hB5, hK5⟩
        replace hIs5 := hidden hIs5
        replace hK5 := hidden (hK4.out.trans hK5)
        have hs5 := hB5.size
        have hB5' := hB4'.trans hB5
        clear hb14 hB5
        go_wp2_with fail
        refine (write_bytes w.heap.size w.heap.size _ _ _ hIs5.out l4.out (by omega)).mono ?_
        rintro ev w6 ⟨rfl, hIs6, hB6, hK6⟩
        have R := hidden (fin.out _ _ _ (hB2.trans hB5') (by omega) hK5.out hIs6 hB6 hK6 (by rw [e1.out]; simp))
        clear hIs6 hK6
        go_wp2
        go_roundg (m - (q.toNat + 1))
        case measure => rw [hkk.out]; have := hkm1.out; omega
        case rel => exact ⟨q.toNat + 1, hkm1.out, ⟨_, rfl, by rw [hqH.out]; simp⟩, rfl, R.out.1, R.out.2.1, R.out.2.2⟩
    · have hge : ¬ q < (m : Int) := by omega
      have hkm2 : k = m := by omega
      have l5 : (chainText (l.take k)).length + (⟨t.toArray⟩ : ByteArray).size ≤ 140737488355328 := by
        have h1 : (⟨t.toArray⟩ : ByteArray).size = t.length := by simp [ByteArray.size]
        rw [hkm2, h1]; exact hlen
      replace l5 := hidden l5
      subst hkm2
      clear hq hkm hlt
      have hsz2 := hB2.size
      go_wp2_with fail
      refine (hnum.out wr hB2).mono ?_
      rintro ev w3 ⟨rfl, hB3⟩
      have hIs3 := hidden (hIs.out.below hB3)
      have hs3 := hB3.size
      have hB3' : Below w.heap.size w w3 := hB2.trans (hB3.mono hsz2)
      clear hB3 hIs hown
      go_wp2_with fail
      refine (herr.out w3 hB3').mono ?_
      rintro ev w4 ⟨rfl, hB4⟩
      have hIs4 := hidden (hIs3.out.below hB4)
      have hs4 := hB4.size
      have hB4' : Below w.heap.size w w4 := hB3'.trans (hB4.mono (by omega))
      clear hB4 hIs3 hB3'
      go_wp2_with fail
      refine (write_bytes w.heap.size w.heap.size _ _ _ hIs4.out l5.out (by omega)).mono ?_
      rintro ev w5 ⟨rfl, hIs5, hB5, -⟩
      have hIs5 := hidden hIs5
      have hs5 := hB5.size
      have hB5' : Below w.heap.size w w5 := hB4'.trans hB5
      clear hB5 hIs4
      go_wp2_with fail
      refine (Tryd.Builder_String_any_k w.heap.size w.heap.size _ _ hIs5.out (by omega)).mono ?_
      rintro ev w6 ⟨rfl, -, hB6, -⟩
      go_wp2
      go_ret
      exact ⟨rfl, hB5'.trans hB6⟩
end Go.Proofs.YtiaplgdplenedaaDoor
