/- Rows of bytes as texts. -/
import Derived.Test.YthibelgeejgmeaaNb0
import Derived.Laws.IdiomCopy
import Derived.Laws.IdiomStrings
import Derived.Laws.Rows
namespace Go.Proofs.Ythibelgeejgmeaa
open Go Go.RowKit
set_option maxRecDepth 100000

def ofBytes (ns : List Int) : ByteArray := ns.foldl (fun r n => r.push (UInt8.ofNat n.toNat)) ByteArray.empty
theorem ofBytes_aux (ns : List Int) : ∀ r : ByteArray, (ns.foldl (fun r n => r.push (UInt8.ofNat n.toNat)) r).data.toList = r.data.toList ++ ns.map (fun n => UInt8.ofNat n.toNat) := by
  induction ns with
  | nil => intro r; simp
  | cons n ns ih => intro r; rw [List.foldl_cons, ih]; simp
theorem ofBytes_mk (xs : List UInt8) : ofBytes (xs.map (fun x => (x.toNat : Int))) = mkB xs := by
  have h := ofBytes_aux (xs.map (fun x => (x.toNat : Int))) ByteArray.empty
  have e : (ofBytes (xs.map (fun x => (x.toNat : Int)))).data.toList = xs := by
    unfold ofBytes
    rw [h, List.map_map]
    have e2 : ((fun n : Int => UInt8.ofNat n.toNat) ∘ fun x : UInt8 => (x.toNat : Int)) = id := by funext x; simp
    rw [e2]; simp
  rw [← mk_back (ofBytes _), e]
/-- A row of bytes, as a text. -/
theorem conv_row (w : World) (b cap : Nat) (xs : List UInt8) (h : ∀ k x, xs[k]? = some x → w.cell? ⟨b, k, none⟩ = some (.int .u8 (x.toNat : Int))) :
    (convert 36 9 (.slice (some ⟨b, 0, none⟩) xs.length cap)).run Try.prog w = .ok (.string (mkB xs)) w := by
  rw [run_convert_bytes_string _ _ _ _ _ _ _ Try.underlying36 Try.underlying5 Try.underlying9]
  have hr := run_bytesToString (P := Try.prog) (w := w) (⟨b, 0, none⟩ : Addr) xs.length cap (xs.map (fun x => (x.toNat : Int))) ?_
  · rw [hr]
    exact congrArg (fun s => Result.ok (Value.string s) w) (ofBytes_mk xs)
  · have := run_loadCells_list (P := Try.prog) (w := w) ⟨b, 0, none⟩ ((xs.map (fun x => (x.toNat : Int))).map (Value.int .u8)) ?_
    · simpa using this
    · intro j u hu
      rw [List.map_map, List.getElem?_map] at hu
      obtain ⟨x, hx, rfl⟩ := Option.map_eq_some_iff.1 hu
      rw [Go.WideShapes.add_plain, Nat.zero_add]
      exact h j x hx
end Go.Proofs.Ythibelgeejgmeaa
