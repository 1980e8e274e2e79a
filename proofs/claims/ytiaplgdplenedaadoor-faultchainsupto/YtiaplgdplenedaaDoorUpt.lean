/- From a row's reading of slices of texts to the walks' words; what the bound on bulk gives; the table of powers out of the row's list. -/
import Derived.Test.YtiaplgdplenedaaDoorTxt
import Derived.Test.YtiaplgdplenedaaDoorRow
import Derived.SliceStrings
namespace Go.Proofs.YtiaplgdplenedaaDoor
open Go.ChangeShapes Go.WideShapes Go.ChangeAt Go.RowKit
set_option maxRecDepth 100000

theorem laidMet_tail {P : Program} {x : String × DataW Unit} {l : List (String × DataW Unit)} {W : World} (h : laidMet P (x :: l) W) : laidMet P l W := by
  obtain ⟨ps, ⟨g, t, cs, fuel, p, q, h1, h2, h3, h4, hr, rfl⟩, hnd, hall⟩ := h
  exact ⟨q, hr, (List.nodup_append.1 hnd).2.1, fun b off hm => hall b off (List.mem_append_right _ hm)⟩
theorem ptType : (Tryd.prog.globals[1]?).map (·.type) = some 128 := by kernel_rfl
theorem ptCells : Tryd.prog.cellsOf 128 = 20 := by kernel_rfl
theorem u64Cells : Tryd.prog.cellsOf 118 = 1 := by kernel_rfl
/-- The table of powers, as the row lists it. -/
theorem table_of_laid {W : World} (h : laidMetH Tryd.prog Rows.faultNilsRow.laid W) : PT W := by
  have h' : laidMet Tryd.prog [("math/bits.deBruijn32tab", Rows.laid_math_bits_deBruijn32tab), ("math/bits.deBruijn64tab", Rows.laid_math_bits_deBruijn64tab), ("internal/strconv.uint64pow10", Rows.laid_internal_strconv_uint64pow10)] W ∧ _ := h
  exact Lib.tabIs_of_head (zs := Lib.pow10Tab) (rest := []) ptGlobal ptType Tryd.underlying128 Tryd.underlying118 u64Cells ptCells (laidMet_tail (laidMet_tail h'.1))

theorem strCellsOne : Tryd.prog.cellsOf 9 = 1 := by kernel_rfl
/-- An argument that is a slice of texts: its length, its texts, and how much its reading counts. -/
theorem open_texts {H : Type} {enc : TypeId × Value → H} {W : World} {base : Nat} {v : Value} {d : DataW H} {p : List MemPlace} (hv : Value.okWide Tryd.prog W .any base 22 v) (h : DataW.Trod enc Tryd.prog W 0 (fun _ => true) true 22 v d p) :
    ∃ a cap ss, v = .slice a ss.length cap ∧ StrsAt W a ss ∧ (ss.map fun s => s.size + 1).sum ≤ Rows.uptoBulk d := by
  obtain ⟨a0, len, cap, rfl⟩ := okWide_slice Tryd.underlying22 hv
  obtain ⟨fuel, hf⟩ := h
  rcases open_strings Tryd.underlying22 Tryd.underlying9 strCellsOne hf with ⟨hcs, hx⟩ | ⟨a, len', cap', ss, hcs, _, hl, hm, hz, hx, hcell, hws⟩
  · simp [Value.cells] at hcs
    obtain ⟨rfl, rfl, rfl⟩ := hcs
    refine ⟨none, 0, [], rfl, Or.inl rfl, by simp⟩
  · simp [Value.cells] at hcs
    obtain ⟨rfl, rfl, rfl⟩ := hcs
    have hz' : ss.length = cap := by simpa using hz
    have hlen : (ss.take len).length = len := by simp; omega
    refine ⟨some a, cap, ss.take len, by rw [hlen], ?_, ?_⟩
    · by_cases hn : ss.take len = []
      · exact Or.inl hn
      · right
        have hpos : 0 < ss.length := by
          rcases Nat.eq_zero_or_pos ss.length with h | h
          · rw [List.length_eq_zero_iff.1 h] at hn; simp at hn
          · exact h
        obtain ⟨b, off, spot⟩ := a
        have hspot : spot = none := by simpa [Addr.add] using World.cell?_spot (hcell 0 hpos)
        subst hspot
        have hc0 := hcell 0 hpos
        refine ⟨b, off, rfl, lt_of_cell (a := ⟨b, off, none⟩) (by simpa [Addr.add] using hc0), fun j s hj => ?_⟩
        have hj' : ss[j]? = some s := by
          rw [List.getElem?_take] at hj
          split at hj
          · exact hj
          · cases hj
        obtain ⟨hjl, hje⟩ := List.getElem?_eq_some_iff.1 hj'
        have := hcell j hjl
        rw [Go.WideShapes.add_plain] at this
        simpa [List.getD, hj'] using this
    · have hd : d = .slice (strs (ss.take len)) (strs (ss.drop len)) := congrArg Prod.fst hx
      rw [hd]
      have hb : ∀ l : List ByteArray, Rows.uptoBulkAll (H := H) (strs l) = (l.map fun s => s.size + 1).sum := fun l => by
        induction l with
        | nil => rfl
        | cons s r ih =>
          have e : Rows.uptoBulkAll (H := H) (strs (s :: r)) = (s.data.toList.length + 1) + Rows.uptoBulkAll (H := H) (strs r) := rfl
          rw [e, ih]
          simp
      have e2 : Rows.uptoBulk (H := H) (.slice (strs (ss.take len)) (strs (ss.drop len))) = Rows.uptoBulkAll (H := H) (strs (ss.take len)) + Rows.uptoBulkAll (H := H) (strs (ss.drop len)) + 1 := rfl
      rw [e2, hb]
      omega

theorem faultText_le (p : ByteArray × ByteArray) : (faultText p).length ≤ 2 * (p.1.size + 1 + (p.2.size + 1)) := by
  have h1 : p.1.data.toList.length = p.1.size := by simp
  have h2 : p.2.data.toList.length = p.2.size := by simp
  unfold faultText
  split <;> simp only [List.length_append, List.length_cons, List.length_nil, h1, h2] <;> omega
theorem chainText_zip_le : ∀ (os ns : List ByteArray), (chainText (os.zip ns)).length ≤ 2 * ((os.map fun s => s.size + 1).sum + (ns.map fun s => s.size + 1).sum)
  | [], _ => by simp [chainText]
  | _ :: _, [] => by simp [chainText]
  | o :: os, n :: ns => by
    have h := chainText_zip_le os ns
    have h1 := faultText_le (o, n)
    have e : chainText ((o :: os).zip (n :: ns)) = faultText (o, n) ++ chainText (os.zip ns) := by simp [chainText]
    rw [e, List.length_append]
    simp only [List.map_cons, List.sum_cons] at *
    omega
theorem chainText_take_le (os ns : List ByteArray) (k : Nat) : (chainText ((os.zip ns).take k)).length ≤ 2 * ((os.map fun s => s.size + 1).sum + (ns.map fun s => s.size + 1).sum) := by
  refine Nat.le_trans ?_ (chainText_zip_le os ns)
  by_cases h : k ≤ (os.zip ns).length
  · have := chainText_le (os.zip ns) k (os.zip ns).length h
    rwa [List.take_length] at this
  · rw [List.take_of_length_le (by omega)]
    exact Nat.le_refl _
theorem wf_bounds {n : Int} (h : (Lit.int .i64 n).wf = true) : -9223372036854775808 ≤ n ∧ n ≤ 9223372036854775807 := by
  have h1 : IntKind.i64.min = -9223372036854775808 := by decide
  have h2 : IntKind.i64.max = 9223372036854775807 := by decide
  simp only [Lit.wf, Bool.and_eq_true, decide_eq_true_eq, h1, h2] at h
  exact h
theorem laidOut : laidOutB Tryd.prog = true := by kernel_rfl
end Go.Proofs.YtiaplgdplenedaaDoor
