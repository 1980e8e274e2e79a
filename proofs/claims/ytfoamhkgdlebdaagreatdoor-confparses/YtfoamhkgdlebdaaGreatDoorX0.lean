/- Texts cut at a blank, and parted at line feeds; what the library's own variables hold. -/
import Derived.Test.YtfoamhkgdlebdaaGreatDoorFl
import Derived.Test.YtfoamhkgdlebdaaGreatDoorFi
import Derived.Test.YtfoamhkgdlebdaaGreatDoorNw1
import Derived.Test.YtfoamhkgdlebdaaGreatDoorShelf
import Derived.Lib.CutLaws
import Derived.Lib.SplitLaws
import Derived.Lib.ItoaLen
import Derived.Lib.AppendIntMem
import Derived.WalkSmall
import Derived.BigCall
namespace Go.Proofs.YtfoamhkgdlebdaaGreatDoor
open Go.RowKit Go.Extern.Stop Go.Stop Go.Extern
set_option maxRecDepth 100000

abbrev GT (w : World) : Prop := w.cell? ⟨0, 0, none⟩ = some (typ 31)
theorem GT.below {w w' : World} (hg : GT w) (h : Below w.heap.size w w') : GT w' := (h.cell (p := ⟨0, 0, none⟩) (lt_of_cell hg)).trans hg
abbrev PT (w : World) : Prop := Lib.TabIs Tryz.prog w "internal/strconv.uint64pow10" .u64 Lib.pow10Tab
theorem ptGlobal : Tryz.prog.globalNamed "internal/strconv.uint64pow10" = some 2 := by kernel_rfl
theorem PT.lt {w : World} (h : PT w) : 2 < w.heap.size := lt_of_cell (a := ⟨2, 0, none⟩) (Lib.TabIs.cell h ptGlobal 0 (by decide))
theorem PT.below {w w' : World} (h : PT w) (hb : Below w.heap.size w w') : PT w' := var?_below hb ptGlobal h.lt h
abbrev lowG : Nat := 2 + 1
/-- What the library's own variables hold: it stays while only newer blocks are written. -/
structure Ground (w : World) : Prop where
  p : PT w
  few : lowG ≤ w.heap.size
theorem Ground.low {w w' : World} (h : Ground w) {B : Nat} (hB : lowG ≤ B) (hb : Below B w w') : Ground w' := by
  have hB' : 2 + 1 ≤ B := hB
  exact ⟨var?_below hb ptGlobal (by show 2 < B; omega) h.p, Nat.le_trans h.few hb.size⟩
theorem Ground.below {w w' : World} (h : Ground w) (hb : Below w.heap.size w w') : Ground w' := h.low h.few hb
theorem Ground.apart {w w' : World} {bs : List Nat} (h : Ground w) (ha : Apart bs w w') (hn : ∀ k, k ∈ bs → lowG ≤ k) : Ground w' := h.low (Nat.le_refl lowG) (ha.below hn h.few)

abbrev itoaB (i : Int) : ByteArray := ⟨(Lib.itoa i).toArray⟩
abbrev i64 (i : Int) : Prop := -9223372036854775808 ≤ i ∧ i ≤ 9223372036854775807

def mkB (x : List UInt8) : ByteArray := ⟨x.toArray⟩
theorem mk_list (x : List UInt8) : (mkB x).data.toList = x := by simp [mkB]
theorem mk_size (x : List UInt8) : (mkB x).size = x.length := by simp [mkB, ByteArray.size]
theorem mk_back (s : ByteArray) : mkB s.data.toList = s := by cases s; simp [mkB]
theorem mk_toList (x : List UInt8) : (mkB x).toList = x := by rw [Lib.toList_data, mk_list]
theorem mk_inj {x y : List UInt8} (h : mkB x = mkB y) : x = y := by rw [← mk_list x, h, mk_list]
def encT (x : List UInt8) : Value := .string (mkB x)

/-- A text cut at its first blank. -/
def cutSp : List UInt8 → List UInt8 × List UInt8
  | [] => ([], [])
  | c :: r => if c = 32 then ([], r) else (c :: (cutSp r).1, (cutSp r).2)
theorem ix_cases (x : List UInt8) (c : UInt8) : Lib.indexByte x c = -1 ∨ ∃ i : Nat, Lib.indexByte x c = i := by
  have := Lib.indexByte_ge x c
  by_cases h : Lib.indexByte x c = -1
  · exact Or.inl h
  · exact Or.inr ⟨(Lib.indexByte x c).toNat, by omega⟩
theorem ix_cons {b c : UInt8} {l : List UInt8} (h : ¬ b = c) : Lib.indexByte (b :: l) c = if Lib.indexByte l c = -1 then -1 else Lib.indexByte l c + 1 := by
  rw [Lib.indexByte]; simp [h]
theorem sp_miss : ∀ x : List UInt8, Lib.indexByte x 32 = -1 → cutSp x = (x, [])
  | [], _ => rfl
  | b :: l, h => by
    by_cases e : b = 32
    · subst e; simp [Lib.indexByte] at h
    · rw [ix_cons e] at h
      have : Lib.indexByte l 32 = -1 := by
        rcases ix_cases l 32 with h1 | ⟨i, h1⟩
        · exact h1
        · rw [h1, if_neg (by omega)] at h; omega
      rw [cutSp, if_neg e, sp_miss l this]
theorem sp_hit : ∀ (x : List UInt8) (i : Nat), Lib.indexByte x 32 = i → cutSp x = (x.take i, x.drop (i + 1))
  | [], i, h => by simp [Lib.indexByte] at h
  | b :: l, i, h => by
    by_cases e : b = 32
    · subst e; simp [Lib.indexByte] at h
      obtain rfl : i = 0 := by omega
      simp [cutSp]
    · rw [ix_cons e] at h
      rcases ix_cases l 32 with h1 | ⟨j, h1⟩
      · rw [h1, if_pos rfl] at h; omega
      · rw [h1, if_neg (by omega)] at h
        obtain rfl : i = j + 1 := by omega
        rw [cutSp, if_neg e, sp_hit l j h1]; simp
theorem cut_sp (x : List UInt8) : (Lib.cut x [32]).1 = (cutSp x).1 ∧ (Lib.cut x [32]).2.1 = (cutSp x).2 := by
  have hi := Lib.index_one x 32
  rcases ix_cases x 32 with h | ⟨i, h⟩
  · rw [sp_miss x h]; rw [h] at hi; simp [Lib.cut, hi]
  · rw [sp_hit x i h]; rw [h] at hi
    simp [Lib.cut, hi]
theorem sp_join (a b : List UInt8) (h : (32 : UInt8) ∉ a) : cutSp (a ++ 32 :: b) = (a, b) := by
  induction a with
  | nil => simp [cutSp]
  | cons c r ih =>
    have hc : ¬ c = 32 := fun e => h (by simp [e])
    rw [List.cons_append, cutSp, if_neg hc, ih (fun h' => h (by simp [h']))]
theorem sp_none (a : List UInt8) (h : (32 : UInt8) ∉ a) : cutSp a = (a, []) := by
  induction a with
  | nil => rfl
  | cons c r ih =>
    have hc : ¬ c = 32 := fun e => h (by simp [e])
    rw [cutSp, if_neg hc, ih (fun h' => h (by simp [h']))]
theorem sp_len (x : List UInt8) : (cutSp x).1.length ≤ x.length ∧ (cutSp x).2.length ≤ x.length := by
  induction x with
  | nil => simp [cutSp]
  | cons c r ih => rw [cutSp]; split <;> simp <;> omega
set_option maxHeartbeats 2000000 in
theorem cut0_calls (s : ByteArray) (w : World) (hs : s.size ≤ 100000) : Calls Tryz.prog 65 #[.string s, .string ⟨#[32]⟩] w fun e w' => e = .returned (.tuple #[.string (mkB (Lib.cut s.data.toList [32]).1), .string (mkB (Lib.cut s.data.toList [32]).2.1), .bool (Lib.cut s.data.toList [32]).2.2]) ∧ Below w.heap.size w w' := by
  have hi := hidden (Tryz.stringslite_Index_one s 32 w)
  rcases Lib.indexB_cases s ⟨#[32]⟩ with hix | ⟨i, hix, hroom⟩
  · obtain ⟨e1, e2, e3⟩ := Lib.cutB_miss s ⟨#[32]⟩ hix
    have hx : Lib.indexByte s.data.toList 32 = -1 := by rw [← Lib.index_one]; exact hix
    unfold mkB
    rw [show (⟨#[32]⟩ : ByteArray).data.toList = [32] from rfl] at e1 e2 e3
    rw [e1, e2, e3]
    rw [hx] at hi
    clear e1 e2 e3 hx hix
    go_enter Tryz.func65, Tryz.ntmps65
    go_wp2_with fail
    refine hi.out.mono ?_
    rintro e w' ⟨rfl, rfl⟩
    go_wp2
    go_ret3
    exact ⟨rfl, Below.refl _ _⟩
  · obtain ⟨e1, e2, e3⟩ := Lib.cutB_hit s ⟨#[32]⟩ i hix
    have hx : Lib.indexByte s.data.toList 32 = (i : Int) := by rw [← Lib.index_one]; exact hix
    unfold mkB
    rw [show (⟨#[32]⟩ : ByteArray).data.toList = [32] from rfl] at e1 e2 e3
    rw [e1, e2, e3]
    rw [hx] at hi
    have hr : i + 1 ≤ s.size := hroom
    have c1 : (0 : Int) ≤ (i : Int) := by omega
    have c2 : (i : Int) ≤ (s.size : Int) := by omega
    have c3 : (0 : Int) ≤ (i : Int) + 1 := by omega
    have c4 : (i : Int) + 1 ≤ (s.size : Int) := by omega
    clear e1 e2 e3 hx hix hroom
    go_enter Tryz.func65, Tryz.ntmps65
    go_wp2_with fail
    refine hi.out.mono ?_
    rintro e w' ⟨rfl, rfl⟩
    go_wp2_with fail
    go_region
    go_wp2
    go_ret3
    exact ⟨rfl, (Below.refl _ _).drew⟩
theorem cut_calls (x : List UInt8) (w : World) (hs : x.length ≤ 100000) : Calls Tryz.prog 46 #[.string (mkB x), .string ⟨#[32]⟩] w fun e w' => (∃ t, e = .returned (.tuple #[.string (mkB (cutSp x).1), .string (mkB (cutSp x).2), .bool t])) ∧ Below w.heap.size w w' := by
  have h := hidden (cut0_calls (mkB x) w (by rw [mk_size]; exact hs))
  rw [mk_list] at h
  rw [← (cut_sp x).1, ← (cut_sp x).2]
  go_enter Tryz.func46, Tryz.ntmps46
  go_wp2_with fail
  refine h.out.mono ?_
  rintro e w' ⟨rfl, hb⟩
  replace hb := hidden hb
  go_wp2
  go_ret3
  exact ⟨⟨_, rfl⟩, hb.out⟩
theorem clone_calls (x : List UInt8) (w : World) (hs : x.length ≤ 100000) : Calls Tryz.prog 66 #[.string (mkB x)] w fun e w' => e = .returned (.string (mkB x)) ∧ Below w.heap.size w w' := by
  have h := hidden (Tryz.stringslite_Clone (mkB x) w (by rw [mk_size]; omega))
  go_enter Tryz.func66, Tryz.ntmps66
  go_wp2_with fail
  refine h.out.mono ?_
  rintro e w' ⟨rfl, hb⟩
  replace hb := hidden hb
  go_wp2
  go_ret
  exact ⟨rfl, hb.out⟩

/-- A text parted at its line feeds. -/
def linesB : List UInt8 → List (List UInt8)
  | [] => [[]]
  | c :: r => if c = 10 then [] :: linesB r else match linesB r with | [] => [[c]] | x :: l => (c :: x) :: l
theorem lines_ne (s : List UInt8) : linesB s ≠ [] := by
  cases s with
  | nil => simp [linesB]
  | cons c r => unfold linesB; split; · simp
                · split <;> simp
theorem lines_miss : ∀ x : List UInt8, Lib.indexByte x 10 = -1 → linesB x = [x]
  | [], _ => rfl
  | b :: l, h => by
    by_cases e : b = 10
    · subst e; simp [Lib.indexByte] at h
    · rw [ix_cons e] at h
      have : Lib.indexByte l 10 = -1 := by
        rcases ix_cases l 10 with h1 | ⟨i, h1⟩
        · exact h1
        · rw [h1, if_neg (by omega)] at h; omega
      rw [linesB, if_neg e, lines_miss l this]
theorem lines_hit : ∀ (x : List UInt8) (i : Nat), Lib.indexByte x 10 = i → linesB x = x.take i :: linesB (x.drop (i + 1))
  | [], i, h => by simp [Lib.indexByte] at h
  | b :: l, i, h => by
    by_cases e : b = 10
    · subst e; simp [Lib.indexByte] at h
      obtain rfl : i = 0 := by omega
      simp [linesB]
    · rw [ix_cons e] at h
      rcases ix_cases l 10 with h1 | ⟨j, h1⟩
      · rw [h1, if_pos rfl] at h; omega
      · rw [h1, if_neg (by omega)] at h
        obtain rfl : i = j + 1 := by omega
        rw [linesB, if_neg e, lines_hit l j h1]; simp
theorem lines_count (s : List UInt8) : (linesB s).length = s.count 10 + 1 := by
  induction s with
  | nil => rfl
  | cons c r ih =>
    unfold linesB
    split
    · rename_i h; subst h; simp [ih]
    · rename_i h
      have hc : (c :: r).count 10 = r.count 10 := by rw [List.count_cons]; simp [h]
      split
      · rename_i h2; exact absurd h2 (lines_ne r)
      · rename_i x l h2; rw [h2] at ih; rw [hc]; simpa using ih
theorem lines_join (a b : List UInt8) (h : (10 : UInt8) ∉ a) : linesB (a ++ 10 :: b) = a :: linesB b := by
  induction a with
  | nil => simp [linesB]
  | cons c r ih =>
    have hc : ¬ c = 10 := fun e => h (by simp [e])
    rw [List.cons_append, linesB, if_neg hc, ih (fun h' => h (by simp [h']))]
theorem lines_one (a : List UInt8) (h : (10 : UInt8) ∉ a) : linesB a = [a] := by
  induction a with
  | nil => rfl
  | cons c r ih =>
    have hc : ¬ c = 10 := fun e => h (by simp [e])
    rw [linesB, if_neg hc, ih (fun h' => h (by simp [h']))]
theorem extract_mk (x : List UInt8) (i j : Nat) : (mkB x).extract i j = mkB ((x.take j).drop i) := by
  have : ((mkB x).extract i j).data.toList = (x.take j).drop i := by
    simp [mkB, ByteArray.data_extract, List.take_drop]
    by_cases h : i ≤ j
    · rw [show i + (j - i) = j by omega]
    · rw [show i + (j - i) = i by omega, List.drop_eq_nil_of_le (by rw [List.length_take]; omega), List.drop_eq_nil_of_le (by rw [List.length_take]; omega)]
  rw [← mk_back ((mkB x).extract i j), this]
theorem split_data : ∀ (k : Nat) (x : List UInt8), x.count 10 = k → Lib.splitB ⟨#[10]⟩ 0 k (mkB x) = (linesB x).map mkB := by
  intro k
  induction k with
  | zero =>
    intro x hk
    have hl := lines_count x
    rw [hk] at hl
    rcases ix_cases x 10 with h | ⟨i, h⟩
    · rw [lines_miss x h, Lib.splitB_zero]; rfl
    · rw [lines_hit x i h, List.length_cons] at hl
      have := lines_ne (x.drop (i + 1))
      have : 0 < (linesB (x.drop (i + 1))).length := List.length_pos_iff.2 this
      omega
  | succ k ih =>
    intro x hk
    have hI : Lib.indexB (mkB x) ⟨#[10]⟩ = Lib.indexByte x 10 := by
      show Lib.index (mkB x).data.toList [10] = _
      rw [mk_list, Lib.index_one]
    rcases ix_cases x 10 with h | ⟨i, h⟩
    · rw [lines_miss x h, Lib.splitB_miss _ _ _ _ (hI.trans h)]; rfl
    · have hl := lines_count x
      rw [hk, lines_hit x i h, List.length_cons, lines_count] at hl
      rw [lines_hit x i h, Lib.splitB_hit _ _ _ _ i (hI.trans h), List.map_cons, ← ih (x.drop (i + 1)) (by omega)]
      have e1 : (mkB x).extract 0 (i + 0) = mkB (x.take i) := by rw [extract_mk]; simp
      have e2 : (mkB x).extract (i + (⟨#[10]⟩ : ByteArray).size) (mkB x).size = mkB (x.drop (i + 1)) := by
        rw [extract_mk, mk_size]; simp; rfl
      rw [e1, e2]
set_option maxHeartbeats 2000000 in
theorem split_calls (x : List UInt8) (w : World) (hs : x.length ≤ 100000) : Calls Tryz.prog 25 #[.string (mkB x), .string ⟨#[10]⟩] w fun e w' => e = .returned (.slice (some ⟨w.heap.size, 0, none⟩) (linesB x).length (linesB x).length) ∧ w' = w.alloc (.cells ((linesB x).map encT).toArray 9) := by
  have hz := mk_size x
  have hcn : Lib.countB (mkB x) ⟨#[10]⟩ = x.count 10 := by
    show Lib.count (mkB x).data.toList [10] = _
    rw [mk_list, Lib.count_one]
  have hle : x.count 10 ≤ x.length := List.count_le_length
  have c : Calls Tryz.prog 45 #[.string (mkB x), .string ⟨#[10]⟩, .int .i64 (0 : Nat), .int .i64 (-1)] w fun e w' => e = .returned (.slice (some ⟨w.heap.size, 0, none⟩) (Lib.splitB ⟨#[10]⟩ 0 (x.count 10 + 1 - 1) (mkB x)).length (x.count 10 + 1)) ∧ w' = w.alloc (.cells (Lib.cellsOf (Lib.splitB ⟨#[10]⟩ 0 (x.count 10 + 1 - 1) (mkB x)) (x.count 10 + 1)) 9) :=
    Any.strings_genSplit_core Tryz.lays221 (by kernel_rfl) (mkB x) ⟨#[10]⟩ 0 (-1) (x.count 10 + 1) w (by rw [hz]; omega) (by decide) (by decide)
      (fun y c hy => by
        refine (Tryz.strings_Index_one y 10 _).mono ?_
        rintro e w' ⟨rfl, rfl⟩
        refine ⟨?_, rfl⟩
        rw [show Lib.indexB y ⟨#[10]⟩ = Lib.indexByte y.data.toList 10 from Lib.index_one _ _])
      (by
        refine (Tryz.strings_Count_one (mkB x) 10 w).mono ?_
        rintro e w' ⟨rfl, rfl⟩
        refine ⟨?_, rfl⟩
        rw [hcn, mk_list]; rfl)
      (by decide) (by decide) (by rw [if_pos (by decide), hcn, hz]; omega)
  have hd := split_data (x.count 10) x rfl
  have hl := lines_count x
  rw [Nat.add_sub_cancel, hd, List.length_map, ← hl] at c
  have e2 : Lib.cellsOf ((linesB x).map mkB) (linesB x).length = ((linesB x).map encT).toArray := by
    rw [show (linesB x).length = ((linesB x).map mkB).length by rw [List.length_map], Lib.cellsOf_full, List.map_map]; rfl
  rw [e2] at c
  replace c := hidden c
  clear e2 hd hl hle hcn hz
  go_enter Tryz.func25, Tryz.ntmps25
  go_wp2_with (go_at_call 45; refine (c.out).mono ?_; rintro e w' ⟨rfl, rfl⟩)
  go_ret
  exact ⟨rfl, rfl⟩
end Go.Proofs.YtfoamhkgdlebdaaGreatDoor
