/- conf.lay: a line of words behind what a Builder holds. -/
import Derived.Test.YtfoamhkgdlebdaaGreatDoorBdW
namespace Go.Proofs.YtfoamhkgdlebdaaGreatDoor
open Go.RowKit Go.Extern.Stop Go.Stop Go.Extern
set_option maxRecDepth 100000

theorem map_mk (ws : List (List UInt8)) : (ws.map mkB).map (·.data.toList) = ws := by
  rw [List.map_map]
  conv => rhs; rw [← List.map_id ws]
  apply List.map_congr_left; intro z _; exact mk_list z
theorem join_calls (ws : List (List UInt8)) (g c : Nat) (w : World) (hx : ∀ (j : Nat) x, ws[j]? = some x → w.cell? ⟨g, j, none⟩ = some (.string (mkB x))) (hg : g < w.heap.size) (hn : ws.length ≤ c) (hc : c ≤ 1000) (hlen : (Lib.join ws [32]).length ≤ 100000) :
    Calls Tryz.prog 44 #[.slice (some ⟨g, 0, none⟩) ws.length c, .string ⟨#[32]⟩] w fun e w' => e = .returned (.string (mkB (Lib.join ws [32]))) ∧ Below w.heap.size w w' := by
  have hjj := Tryz.strings_Join g 0 c (ws.map mkB) ⟨#[32]⟩ w (fun j x hj => by
    rw [List.getElem?_map] at hj
    obtain ⟨z, hz, rfl⟩ := Option.map_eq_some_iff.1 hj
    rw [Nat.zero_add]
    exact hx j z hz) hg (by rw [List.length_map]; omega) (by rw [List.length_map]; omega) (by rw [map_mk]; exact Nat.le_trans hlen (by omega))
  rw [map_mk, List.length_map] at hjj
  exact hjj
set_option maxHeartbeats 4000000 in
theorem lay_calls (B b : Nat) (l : List UInt8) (ws : List (List UInt8)) (g c : Nat) (w : World) (h : IsB B b (Lib.byteCells l) w) (hB : B ≤ w.heap.size) (hx : ∀ (j : Nat) x, ws[j]? = some x → w.cell? ⟨g, j, none⟩ = some (.string (mkB x))) (hg : g < w.heap.size) (hn : ws.length ≤ c) (hc : c ≤ 1000) (hlen : (Lib.join ws [32]).length ≤ 100000) (hl : l.length ≤ 100000) :
    Calls Tryz.prog 23 #[.pointer (some ⟨b, 0, none⟩), .slice (some ⟨g, 0, none⟩) ws.length c] w fun e w' => e = .returned (.tuple #[]) ∧ IsB B b (Lib.byteCells (l ++ (Lib.join ws [32] ++ [10]))) w' ∧ Below B w w' := by
  have kJ := hidden (join_calls ws g c w hx hg hn hc hlen)
  obtain ⟨n, hn'⟩ : ∃ n, ws.length = n := ⟨_, rfl⟩
  rw [hn'] at kJ ⊢
  clear hn'
  have kW := hidden (fun (wx : World) (hx : Below w.heap.size w wx) => write_bytes B b l (mkB (Lib.join ws [32])) wx (h.below hx) (by rw [mk_size]; omega) (Nat.le_trans hB hx.size))
  have kV := hidden (fun (wx : World) (hI : IsB B b (Lib.byteCells (l ++ Lib.join ws [32])) wx) (hBx : B ≤ wx.heap.size) => write_bytes B b (l ++ Lib.join ws [32]) ⟨#[10]⟩ wx hI (by rw [List.length_append]; simp [ByteArray.size]; omega) hBx)
  rw [mk_list] at kW
  clear hx hg hn hc hlen hl h
  generalize Lib.join ws [32] = J at *
  go_enter Tryz.func23, Tryz.ntmps23
  go_wp2_with fail
  refine kJ.out.mono ?_
  rintro e w1 ⟨rfl, hb1⟩
  have kW1 := hidden (kW.out w1 hb1)
  have hB1 := Nat.le_trans hB hb1.size
  replace hb1 := hidden (hb1.mono hB)
  clear kJ kW
  go_wp2_with fail
  refine kW1.out.mono ?_
  rintro e w2 ⟨rfl, hI2, hb2, -⟩
  have kV2 := hidden (kV.out w2 hI2 (Nat.le_trans hB1 hb2.size))
  have hB2 := hidden (hb1.out.trans hb2)
  clear hI2 hb2 kV kW1 hb1
  go_wp2_with fail
  refine kV2.out.mono ?_
  rintro e w3 ⟨rfl, hI3, hb3, -⟩
  have hE := hidden (And.intro hI3 (hB2.out.trans hb3))
  clear hI3 hb3 kV2 hB2
  go_wp2
  go_end0
  have e1 : l ++ J ++ (⟨#[10]⟩ : ByteArray).data.toList = l ++ (J ++ [10]) := by rw [List.append_assoc]
  rw [e1] at hE
  exact ⟨rfl, hE.out⟩
/-- A line of words. -/
def lineW (ws : List (List UInt8)) : List UInt8 := Lib.join ws [32] ++ [10]
theorem lay2 (B b : Nat) (l k p : List UInt8) (kb : ByteArray) (hk : kb = mkB k) (w : World) (h : IsB B b (Lib.byteCells l) w) (hB : B ≤ w.heap.size) (hl : l.length ≤ 100000) (hkl : k.length ≤ 10) (hp : p.length ≤ 1000) :
    Calls Tryz.prog 23 #[.pointer (some ⟨b, 0, none⟩), .slice (some ⟨w.heap.size, 0, none⟩) 2 2] (w.alloc (.cells #[.string kb, .string (mkB p)] 9)) fun e w' => e = .returned (.tuple #[]) ∧ IsB B b (Lib.byteCells (l ++ lineW [k, p])) w' ∧ Below B w w' := by
  subst hk
  have ha := (Below.refl w.heap.size w).alloc (Nat.le_refl _) (.cells #[.string (mkB k), .string (mkB p)] 9)
  refine (lay_calls B b l [k, p] w.heap.size 2 _ (h.below ha) (by simp; omega) (fun j x hj => ?_) (by simp) (by simp) (by omega) (by simp [Lib.join]; omega) hl).mono fun e w' ⟨he, hI, hb⟩ => ⟨he, hI, (ha.mono hB).trans hb⟩
  match j with
  | 0 => simp at hj; subst hj; simp
  | 1 => simp at hj; subst hj; simp
  | j + 2 => simp at hj
theorem lay3 (B b : Nat) (l k p q : List UInt8) (kb : ByteArray) (hk : kb = mkB k) (w : World) (h : IsB B b (Lib.byteCells l) w) (hB : B ≤ w.heap.size) (hl : l.length ≤ 100000) (hkl : k.length ≤ 10) (hp : p.length ≤ 1000) (hq : q.length ≤ 1000) :
    Calls Tryz.prog 23 #[.pointer (some ⟨b, 0, none⟩), .slice (some ⟨w.heap.size, 0, none⟩) 3 3] (w.alloc (.cells #[.string kb, .string (mkB p), .string (mkB q)] 9)) fun e w' => e = .returned (.tuple #[]) ∧ IsB B b (Lib.byteCells (l ++ lineW [k, p, q])) w' ∧ Below B w w' := by
  subst hk
  have ha := (Below.refl w.heap.size w).alloc (Nat.le_refl _) (.cells #[.string (mkB k), .string (mkB p), .string (mkB q)] 9)
  refine (lay_calls B b l [k, p, q] w.heap.size 3 _ (h.below ha) (by simp; omega) (fun j x hj => ?_) (by simp) (by simp) (by omega) (by simp [Lib.join]; omega) hl).mono fun e w' ⟨he, hI, hb⟩ => ⟨he, hI, (ha.mono hB).trans hb⟩
  match j with
  | 0 => simp at hj; subst hj; simp
  | 1 => simp at hj; subst hj; simp
  | 2 => simp at hj; subst hj; simp
  | j + 3 => simp at hj
theorem lineW_len2 (k p : List UInt8) : (lineW [k, p]).length = k.length + p.length + 2 := by simp [lineW, Lib.join]; omega
theorem lineW_len3 (k p q : List UInt8) : (lineW [k, p, q]).length = k.length + p.length + q.length + 3 := by simp [lineW, Lib.join]; omega
end Go.Proofs.YtfoamhkgdlebdaaGreatDoor
