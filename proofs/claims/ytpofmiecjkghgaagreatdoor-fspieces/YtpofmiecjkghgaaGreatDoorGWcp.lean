/- budget.Layout, May, and the document's; what the document fixes (awake). -/
import Derived.Test.YtpofmiecjkghgaaGreatDoorGIap
import Derived.Test.YtpofmiecjkghgaaGreatDoorGWap
import Derived.Test.YtpofmiecjkghgaaGreatDoorGNwp
import Derived.Test.YtpofmiecjkghgaaGreatDoorShelf3
import Derived.Lib.CutLaws
import Derived.BigCall
namespace Go.Proofs.YtpofmiecjkghgaaGreatDoor
open Go.RowKit
set_option maxRecDepth 100000
set_option maxHeartbeats 8000000
def datB (b i : Int) : Int := b - 96 - i - (b + 1023) / 1024
def layOk (b i : Int) : Prop := 128 <= b /\ b <= 2048 /\ 8 <= i /\ i <= 200 /\ 8 <= datB b i
theorem layout_ok (b i : Int) (h : layOk b i) (w : World) :
    Calls Tryz.prog 150 #[.int .i64 b, .int .i64 i] w fun e w' => e = .returned (.tuple #[.int .i64 (datB b i), .bool true]) /\ w' = w := by
  obtain ⟨h1, h2, h3, h4, h5⟩ := h
  unfold datB at h5 ⊢
  have g1 : ¬ b < 128 := by omega
  have g2 : ¬ b > 2048 := by omega
  have g3 : ¬ i < 8 := by omega
  have g4 : ¬ i > 200 := by omega
  have hr : 0 <= (b + 1023) / 1024 /\ (b + 1023) / 1024 <= 3 := by omega
  have hb := hidden (fun w => begun2_calls b (by omega) (by omega) w)
  generalize (b + 1023) / 1024 = q at hr hb h5 ⊢
  have g5 : ¬ b - 96 - i - q < 8 := by omega
  go_enter Tryz.func150, Tryz.ntmps150
  go_wp2_with fail
  refine (hb.out _).mono ?_
  rintro ev w1 ⟨rfl, rfl⟩
  go_wp2
  go_ret2
  exact ⟨rfl, rfl⟩
theorem reflayout_ok (b i : Int) (h : layOk b i) (w : World) :
    Calls Tryz.prog 53 #[.int .i64 b, .int .i64 i] w fun e w' => e = .returned (.tuple #[.int .i64 (datB b i), .bool true]) /\ w' = w := by
  obtain ⟨h1, h2, h3, h4, h5⟩ := h
  unfold datB at h5 ⊢
  have g1 : ¬ b < 128 := by omega
  have g2 : ¬ b > 2048 := by omega
  have g3 : ¬ i < 8 := by omega
  have g4 : ¬ i > 200 := by omega
  have e1 : (b + 1023).tdiv 1024 = (b + 1023) / 1024 := Int.tdiv_eq_ediv_of_nonneg (by omega)
  have hr : 0 <= (b + 1023) / 1024 /\ (b + 1023) / 1024 <= 3 := by omega
  generalize (b + 1023) / 1024 = q at hr e1 h5 ⊢
  have g5 : ¬ b - 96 - i - q < 8 := by omega
  go_enter Tryz.func53, Tryz.ntmps53
  go_wp2
  go_ret2
  exact ⟨rfl, rfl⟩
def mayB (f r n : Int) (a : Bool) : Bool := decide (n < 1) || (decide (n <= f) && (a || decide (r <= f - n)))
theorem may_calls (f r n : Int) (a : Bool) (hf : f <= 9223372036854775807) (w : World) :
    Calls Tryz.prog 167 #[.int .i64 f, .int .i64 r, .int .i64 n, .bool a] w fun e w' => e = .returned (.bool (mayB f r n a)) /\ w' = w := by
  by_cases h1 : n < 1
  · have hE : mayB f r n a = true := by unfold mayB; simp [h1]
    rw [hE]
    clear hE
    go_enter Tryz.func167, Tryz.ntmps167
    go_wp2
    go_ret
    exact ⟨rfl, rfl⟩
  by_cases h2 : n > f
  · have hE : mayB f r n a = false := by unfold mayB; rw [decide_eq_false h1, decide_eq_false (show ¬ n <= f by omega)]; rfl
    rw [hE]
    clear hE
    go_enter Tryz.func167, Tryz.ntmps167
    go_wp2
    go_ret
    exact ⟨rfl, rfl⟩
  cases a with
  | true =>
    have hE : mayB f r n true = true := by unfold mayB; rw [decide_eq_true (show n <= f by omega)]; simp
    rw [hE]
    clear hE
    go_enter Tryz.func167, Tryz.ntmps167
    go_wp2
    go_ret
    exact ⟨rfl, rfl⟩
  | false =>
    have hE : mayB f r n false = decide (r <= f - n) := by unfold mayB; rw [decide_eq_false h1, decide_eq_true (show n <= f by omega)]; simp
    rw [hE]
    clear hE
    obtain ⟨z, hz⟩ : ∃ z, f - n = z := ⟨_, rfl⟩
    have hz0 : 0 <= z /\ z <= 9223372036854775807 := by omega
    rw [hz]
    by_cases h3 : r <= z
    · rw [decide_eq_true h3]
      go_enter Tryz.func167, Tryz.ntmps167
      go_wp2
      all_goals (go_ret; exact ⟨rfl, rfl⟩)
    · rw [decide_eq_false h3]
      go_enter Tryz.func167, Tryz.ntmps167
      go_wp2
      all_goals (go_ret; exact ⟨rfl, rfl⟩)
end Go.Proofs.YtpofmiecjkghgaaGreatDoor
namespace Go.Proofs.YtpofmiecjkghgaaGreatDoor
open Go.RowKit Go.Extern.Stop Go.Stop Go.Extern Go.Maps Go.Sort Go.Shelf
set_option maxRecDepth 100000
set_option maxHeartbeats 8000000
section
variable {fb rs hb : Nat} {E : TE} {w w' : World} {K : Nat -> Nat} {D : Nat -> List Int} {T : Nat -> List Rec} {f u lim : Nat}
theorem widen_calls {X : DX} {db : Nat} {L : List Rec} (h : DL X db L w) (e : EOk X) (hl : L.length < 120) :
    Calls Tryz.prog 118 #[ptr db] w fun e w' => e = .returned (.tuple #[.int .i64 (growb ((32 * L.length : Nat) : Int) ((32 * (L.length + 1) : Nat) : Int)), .nilIface]) /\ Below w.heap.size w w' := by
  have kL := hidden (dLen_calls h e)
  have kG := fun (wx : World) => grow_calls ((32 * L.length : Nat) : Int) ((32 * (L.length + 1) : Nat) : Int) wx
  rw [show ((32 * L.length : Nat) : Int) = 32 * (L.length : Int) by omega, show ((32 * (L.length + 1) : Nat) : Int) = 32 * (L.length : Int) + 32 by omega] at kG ⊢
  replace kG := hidden kG
  have h1 : ¬ (120 : Int) <= (L.length : Int) := by omega
  have h2 : (0 : Int) <= (L.length : Int) := by omega
  clear h e
  generalize (L.length : Int) = n at *
  generalize growb (32 * n) (32 * n + 32) = g at *
  go_enter Tryz.func118, Tryz.ntmps118
  go_wp2_with fail
  refine (kL.out).mono ?_
  rintro ev w1 ⟨rfl, hB1⟩
  replace hB1 := hidden hB1
  clear kL
  go_wp2_with fail
  refine (kG.out _).mono ?_
  rintro ev w2 ⟨rfl, hw2⟩
  subst w2
  go_wp2
  go_ret2
  exact ⟨rfl, hB1.out⟩
theorem S8.left (ok : E.Ok) (h : S8 E K D f u lim w) :
    Calls Tryz.prog 57 #[ptr E.tb] w fun e w' => e = .returned (.tuple #[.int .i64 (cntN K (E.tn + 1) : Nat), .nilIface]) /\ Below w.heap.size w w' := by
  obtain ⟨mem, wr, M, N, q1, q2, q3, q4, q5, q6⟩ := h
  have := Ino.left q1 ok q2
  rw [show (fun j => (N j).kind) = K from funext q5] at this
  exact this
end
end Go.Proofs.YtpofmiecjkghgaaGreatDoor
namespace Go.Proofs.YtpofmiecjkghgaaGreatDoor
open Go Go.RowKit
set_option maxRecDepth 100000
set_option maxHeartbeats 8000000
def strokes : List UInt8 -> List (List UInt8)
  | [] => [[]]
  | c :: r => if c = 47 then [] :: strokes r else match strokes r with | [] => [[c]] | x :: l => (c :: x) :: l
def mayP (l : List (List UInt8)) : Bool := decide (l.length <= 6) && l.all okB
def splitB (p : List UInt8) : Option (List (List UInt8)) :=
  if p = [47] then some [] else match p with | [] => none | c :: r => if c = 47 then (if mayP (strokes r) = true then some (strokes r) else none) else none
theorem ok_ne {s : List UInt8} (h : okB s = true) : s ≠ [] := by rintro rfl; simp [okB] at h
theorem ok_len {s : List UInt8} (h : okB s = true) : 1 <= s.length /\ s.length <= 27 := by
  simp only [okB, Bool.and_eq_true, decide_eq_true_eq] at h; exact ⟨h.1.1.1.1, h.1.1.1.2⟩
theorem may_all {l : List (List UInt8)} (h : mayP l = true) : l.length <= 6 /\ ∀ x ∈ l, okB x = true := by
  simpa [mayP] using h
theorem may_of {l : List (List UInt8)} (h : l.length <= 6) (h2 : ∀ x ∈ l, okB x = true) : mayP l = true := by simp [mayP, h]; exact h2
theorem split_may {p : List UInt8} {l : List (List UInt8)} (h : splitB p = some l) : mayP l = true := by
  unfold splitB at h
  split at h
  · cases h; rfl
  · split at h
    · cases h
    · split at h
      · split at h
        · rename_i h3; cases h; exact h3
        · cases h
      · cases h
theorem cut_nil : Lib.cut [] [47] = ([], [], false) := by decide
theorem cut_cons (c : UInt8) (s : List UInt8) : Lib.cut (c :: s) [47] = if c = 47 then ([], s, true) else (c :: (Lib.cut s [47]).1, (Lib.cut s [47]).2) := by
  have ix := Lib.index_one (c :: s) 47
  have iy := Lib.index_one s 47
  have hge := Lib.indexByte_ge s 47
  unfold Lib.cut
  rw [ix, iy]
  simp only [Lib.indexByte]
  by_cases hc : c = 47
  · subst hc; simp
  · have hb : (c == 47) = false := by simp [hc]
    rw [if_neg hc]
    simp only [hb, Bool.false_eq_true, if_false]
    by_cases hi : Lib.indexByte s 47 = -1
    · simp [hi]
    · have hb2 : (Lib.indexByte s 47 == -1) = false := by simp [hi]
      simp only [hb2, Bool.false_eq_true, if_false]
      rw [if_pos (by omega), if_pos (by omega)]
      obtain ⟨n, hn⟩ : ∃ n : Nat, Lib.indexByte s 47 = (n : Int) := ⟨(Lib.indexByte s 47).toNat, by omega⟩
      rw [hn]
      have e : ((n : Int) + 1).toNat = n + 1 := by omega
      rw [e, Int.toNat_natCast]
      simp
theorem strokes_cut (s : List UInt8) : strokes s = (Lib.cut s [47]).1 :: (if (Lib.cut s [47]).2.2 = true then strokes (Lib.cut s [47]).2.1 else []) := by
  induction s with
  | nil => rw [cut_nil]; rfl
  | cons c r ih =>
    rw [cut_cons]
    by_cases h : c = 47
    · simp [strokes, h]
    · have e : strokes (c :: r) = match strokes r with | [] => [[c]] | x :: l => (c :: x) :: l := by rw [strokes, if_neg h]
      rw [e, ih, if_neg h]
theorem cut_len (s : List UInt8) : (Lib.cut s [47]).1.length <= s.length /\ (Lib.cut s [47]).2.1.length <= s.length /\ ((Lib.cut s [47]).2.2 = true -> (Lib.cut s [47]).1.length + (Lib.cut s [47]).2.1.length + 1 = s.length) := by
  induction s with
  | nil => rw [cut_nil]; simp
  | cons c r ih =>
    rw [cut_cons]
    split
    · simp
    · simp only [List.length_cons]; refine ⟨by omega, by omega, ?_⟩
      intro h; have := ih.2.2 h; omega
theorem nindex_calls (s : ByteArray) (w : World) : Calls Tryz.prog 229 #[.string s, .string ⟨#[47]⟩] w fun e w' => e = .returned (.int .i64 (Lib.indexByte s.data.toList 47)) /\ w' = w := by
  have hin := hidden (stringslite_indexByte s 47 w)
  by_cases h : ([47] : List UInt8) == s.toList
  · have e : Lib.indexByte s.data.toList 47 = 0 := by
      rw [Lib.toList_data] at h
      have : s.data.toList = [47] := by simpa using (eq_of_beq h).symm
      rw [this]; rfl
    rw [e]
    go_enter Tryz.func229, Tryz.ntmps229
    go_wp2
    go_ret
    exact ⟨rfl, rfl⟩
  · replace h : (([47] : List UInt8) == s.toList) = false := by simpa using h
    go_enter Tryz.func229, Tryz.ntmps229
    go_wp2_with fail
    refine hin.out.mono ?_
    rintro e w' ⟨rfl, rfl⟩
    go_wp2
    go_ret
    exact ⟨rfl, rfl⟩
theorem cut0_calls (s : ByteArray) (w : World) (hs : s.size <= 100000) : Calls Tryz.prog 179 #[.string s, .string ⟨#[47]⟩] w fun e w' => e = .returned (.tuple #[.string (mkB (Lib.cut s.data.toList [47]).1), .string (mkB (Lib.cut s.data.toList [47]).2.1), .bool (Lib.cut s.data.toList [47]).2.2]) /\ Below w.heap.size w w' := by
  have hi := hidden (nindex_calls s w)
  rcases Lib.indexB_cases s ⟨#[47]⟩ with hix | ⟨i, hix, hroom⟩
  · obtain ⟨e1, e2, e3⟩ := Lib.cutB_miss s ⟨#[47]⟩ hix
    have hx : Lib.indexByte s.data.toList 47 = -1 := by rw [<- Lib.index_one]; exact hix
    unfold mkB
    rw [show (⟨#[47]⟩ : ByteArray).data.toList = [47] from rfl] at e1 e2 e3
    rw [e1, e2, e3]
    rw [hx] at hi
    clear e1 e2 e3 hx hix
    go_enter Tryz.func179, Tryz.ntmps179
    go_wp2_with fail
    refine hi.out.mono ?_
    rintro e w' ⟨rfl, rfl⟩
    go_wp2
    go_ret3
    exact ⟨rfl, Below.refl _ _⟩
  · obtain ⟨e1, e2, e3⟩ := Lib.cutB_hit s ⟨#[47]⟩ i hix
    have hx : Lib.indexByte s.data.toList 47 = (i : Int) := by rw [<- Lib.index_one]; exact hix
    unfold mkB
    rw [show (⟨#[47]⟩ : ByteArray).data.toList = [47] from rfl] at e1 e2 e3
    rw [e1, e2, e3]
    rw [hx] at hi
    have hr : i + 1 <= s.size := hroom
    have c1 : (0 : Int) <= (i : Int) := by omega
    have c2 : (i : Int) <= (s.size : Int) := by omega
    have c3 : (0 : Int) <= (i : Int) + 1 := by omega
    have c4 : (i : Int) + 1 <= (s.size : Int) := by omega
    clear e1 e2 e3 hx hix hroom
    go_enter Tryz.func179, Tryz.ntmps179
    go_wp2_with fail
    refine hi.out.mono ?_
    rintro e w' ⟨rfl, rfl⟩
    go_wp2_with fail
    go_region
    go_wp2
    go_ret3
    exact ⟨rfl, (Below.refl _ _).drew⟩
theorem cut_calls (x : List UInt8) (w : World) (hs : x.length <= 100000) : Calls Tryz.prog 130 #[.string (mkB x), .string ⟨#[47]⟩] w fun e w' => e = .returned (.tuple #[.string (mkB (Lib.cut x [47]).1), .string (mkB (Lib.cut x [47]).2.1), .bool (Lib.cut x [47]).2.2]) /\ Below w.heap.size w w' := by
  have h := hidden (cut0_calls (mkB x) w (by rw [mk_size]; exact hs))
  rw [mk_list] at h
  go_enter Tryz.func130, Tryz.ntmps130
  go_wp2_with fail
  refine h.out.mono ?_
  rintro e w' ⟨rfl, hb⟩
  replace hb := hidden hb
  go_wp2
  go_ret3
  exact ⟨rfl, hb.out⟩
theorem clone_calls (x : List UInt8) (w : World) (hs : x.length <= 100000) : Calls Tryz.prog 132 #[.string (mkB x)] w fun e w' => e = .returned (.string (mkB x)) /\ Below w.heap.size w w' := by
  have h := hidden (Tryz.stringslite_Clone (mkB x) w (by rw [mk_size]; omega))
  go_enter Tryz.func132, Tryz.ntmps132
  go_wp2_with fail
  refine h.out.mono ?_
  rintro e w' ⟨rfl, hb⟩
  replace hb := hidden hb
  go_wp2
  go_ret
  exact ⟨rfl, hb.out⟩
theorem split_go (l : List (List UInt8)) (r : List UInt8) (h : ¬ l.length = 6) (hl : mayP l = true) (hok : okB (Lib.cut r [47]).1 = true) :
    mayP (l ++ [(Lib.cut r [47]).1]) = true := by
  obtain ⟨h1, h2⟩ := may_all hl
  refine may_of (by simp; omega) (fun x hx => ?_)
  rcases List.mem_append.1 hx with hx | hx
  · exact h2 x hx
  · simp at hx; rw [hx]; exact hok
theorem split_no (l : List (List UInt8)) (r : List UInt8) (h : l.length = 6 \/ okB (Lib.cut r [47]).1 = false) : mayP (l ++ strokes r) = false := by
  rw [strokes_cut]
  cases hm : mayP (l ++ ((Lib.cut r [47]).1 :: if (Lib.cut r [47]).2.2 = true then strokes (Lib.cut r [47]).2.1 else [])) with
  | false => rfl
  | true =>
    obtain ⟨h1, h2⟩ := may_all hm
    rcases h with h | h
    · simp at h1; omega
    · have := h2 (Lib.cut r [47]).1 (by simp)
      rw [h] at this; cases this
def ToldS (p : List UInt8) (w w' : World) (v : Value) : Prop := TxtsAt w' v ((splitB p).getD []) /\ Below w.heap.size w w'
theorem split_calls (p : List UInt8) (w : World) (hp : p.length <= 2000) : Calls Tryz.prog 73 #[.string (mkB p)] w fun e w' => ∃ v, e = .returned (.tuple #[v, .bool (splitB p).isSome]) /\ ToldS p w w' v := by
  by_cases h1 : ((mkB p).toList == [47]) = true
  · have e : splitB p = some [] := by
      rw [mk_toList] at h1
      have : p = [47] := by simpa using h1
      subst this; rfl
    have ht : ToldS p w w (.slice none 0 0) := ⟨by rw [e]; exact TxtsAt.nil _ _ _, Below.refl _ _⟩
    rw [e]; clear e
    replace ht := hidden ht
    go_enter Tryz.func73, Tryz.ntmps73
    go_wp2
    go_ret2
    exact ⟨_, rfl, ht.out⟩
  replace h1 : ((mkB p).toList == [47]) = false := by simpa using h1
  have hn : p ≠ [47] := by rw [mk_toList] at h1; simpa using h1
  have kP := hidden (Tryz.strings_CutPrefix (mkB p) ⟨#[47]⟩ w)
  rw [mk_list, show (⟨#[47]⟩ : ByteArray).data.toList = [47] from rfl] at kP
  by_cases h2 : Lib.hasPrefix p [47] = true
  · obtain ⟨r, rfl⟩ : ∃ r, p = 47 :: r := by
      cases p with
      | nil => simp [Lib.hasPrefix] at h2
      | cons c r => simp [Lib.hasPrefix] at h2; exact ⟨r, by rw [h2]⟩
    have e1 : Lib.trimPrefix (47 :: r) [47] = r := by simp [Lib.trimPrefix, h2]
    rw [e1, h2] at kP
    have hs : splitB (47 :: r) = if mayP ([] ++ strokes r) = true then some ([] ++ strokes r) else none := by
      rw [splitB, if_neg hn]; simp
    have hr : r.length <= 2000 := by simp at hp; omega
    generalize hP : (47 : UInt8) :: r = p at *
    clear e1 h2 hn hP
    replace hs := hidden hs
    replace hr := hidden hr
    replace hp := hidden hp
    have hfold : (⟨r.toArray⟩ : ByteArray) = mkB r := rfl
    rw [hfold] at kP; clear hfold
    go_enter Tryz.func73, Tryz.ntmps73
    go_wp2_with fail
    refine kP.out.mono ?_
    rintro e w1 ⟨rfl, hw⟩
    subst w1
    clear kP h1
    go_wp2_with fail
    go_loopg [4, 6, 7] (r.length + 1) (fun g sr sl sm wr => ∃ (r' : List UInt8) (l : List (List UInt8)) (m : Bool), sr = .string (mkB r') /\ sm = .bool m /\ KeptT w.heap.size wr sl l /\ Below w.heap.size w wr /\ r'.length <= 2000 /\ mayP l = true /\ (m = true -> g = r'.length + 1 /\ splitB p = if mayP (l ++ strokes r') = true then some (l ++ strokes r') else none) /\ (m = false -> splitB p = some l))
    case atStart => exact ⟨r, [], true, rfl, rfl, KeptT.nil _ _, Below.refl _ _, hr.out, rfl, fun _ => ⟨rfl, hs.out⟩, fun h => by cases h⟩
    case round =>
      obtain ⟨r', l, m, rfl, rfl, hk, hB, hr', hl, hyes, hno⟩ := hrel
      clear hs hr
      replace hB := hidden hB
      replace hl := hidden hl
      replace hyes := hidden hyes
      replace hno := hidden hno
      cases m
      · have e := hidden (hno.out rfl)
        have ht : ToldS p w wr _ := ⟨by rw [e.out]; exact hk.at, hB.out⟩
        replace ht := hidden ht
        replace hk := hidden hk
        go_wp2
        go_ret2
        exact ⟨_, by rw [e.out]; rfl, ht.out⟩
      · obtain ⟨hg, hsp⟩ := hyes.out rfl
        clear hyes hno
        replace hg := hidden hg
        replace hsp := hidden hsp
        have hcl := hidden (cut_len r')
        have kC := hidden (cut_calls r' wr (by omega))
        have hgo := hidden (split_go l r')
        have hnn := hidden (split_no l r')
        have hsc := hidden (strokes_cut r')
        replace hr' := hidden hr'
        have hk2 := hidden hk
        obtain ⟨a, cap, rfl, -, -⟩ := hk.at
        clear hk
        generalize (Lib.cut r' [47]).1 = c1 at *
        generalize (Lib.cut r' [47]).2.1 = c2 at *
        generalize (Lib.cut r' [47]).2.2 = c3 at *
        go_wp2_with fail
        refine kC.out.mono ?_
        rintro e w2 ⟨rfl, hB2⟩
        clear kC
        have hB2' := hidden hB2
        by_cases h6 : l.length = 6
        · have h6' : (l.length : Int) = 6 := by omega
          have e : splitB p = none := by rw [hsp.out, hnn.out (Or.inl h6)]; rfl
          have ht : ToldS p w w2 (.slice none 0 0) := ⟨by rw [e]; exact TxtsAt.nil _ _ _, hB.out.trans (hB2'.out.mono hB.out.size)⟩
          replace e := hidden e
          clear hB2 h6
          replace ht := hidden ht
          go_wp2
          go_ret2
          exact ⟨_, by rw [e.out]; rfl, ht.out⟩
        · have h6' : ¬ (l.length : Int) = 6 := by omega
          have kO := hidden (ok_calls (mkB c1) w2)
          rw [mk_list] at kO
          clear hB2
          go_wp2_with fail
          refine kO.out.mono ?_
          rintro e w3 ⟨rfl, hw⟩
          subst w3
          clear kO
          cases ho : okB c1
          · have e : splitB p = none := by rw [hsp.out, hnn.out (Or.inr ho)]; rfl
            have ht : ToldS p w w2 (.slice none 0 0) := ⟨by rw [e]; exact TxtsAt.nil _ _ _, hB.out.trans (hB2'.out.mono hB.out.size)⟩
            replace e := hidden e
            replace ht := hidden ht
            go_wp2
            go_ret2
            exact ⟨_, by rw [e.out]; rfl, ht.out⟩
          · have kN := hidden (clone_calls c1 w2 (by have := ok_len ho; omega))
            go_wp2_with fail
            refine kN.out.mono ?_
            rintro e w4 ⟨rfl, hB4⟩
            clear kN
            have hB4' := hidden hB4
            clear hB4
            have hal := hidden ((Below.refl w4.heap.size w4).alloc (Nat.le_refl _) (.cells #[.string (mkB c1)] 9))
            have hk4 := hidden (((hk2.out.below hB2'.out).below (hB4'.out)).below hal.out)
            have hcell : (w4.alloc (.cells #[.string (mkB c1)] 9)).cell? ⟨w4.heap.size, 0, none⟩ = some (.string (mkB c1)) := by simp
            have s1 := hB.out.size
            have s2 := hB2'.out.size
            have s4 := hB4'.out.size
            have s5 := hal.out.size
            have hlm := (may_all hl.out).1
            obtain ⟨v5, w5, hrun, hk5, hB5⟩ := keptT_append hk4.out ⟨w4.heap.size, 0, none⟩ 1 c1 hcell (by omega) (by omega) 50
            replace hrun := hidden hrun
            replace hk5 := hidden hk5
            have hBB := hidden (((hB.out.trans (hB2'.out.mono s1)).trans (hB4'.out.mono (by omega))).trans ((hal.out.mono (by omega)).trans hB5))
            clear hcell s1 s2 s4 s5 hlm hB5 hal
            go_wp2_with (at_builtin; refine wpList_append_eq _ _ 50 rfl _ _ v5 w5 rfl rfl hrun.out rfl ?_)
            go_roundg (if c3 = true then c2.length + 1 else 0)
            case measure =>
              have h1 := hg.out
              have h2 := hcl.out.2.2
              split
              · rename_i h; have := h2 h; omega
              · omega
            case rel =>
              have hm := hgo.out h6 hl.out ho
              refine ⟨c2, l ++ [c1], c3, rfl, rfl, hk5.out, hBB.out, Nat.le_trans hcl.out.2.1 hr'.out, hm, fun h3 => ⟨by rw [if_pos h3], ?_⟩, fun h3 => ?_⟩
              · have h4 := hsc.out
                rw [if_pos h3] at h4
                rw [hsp.out, h4, List.append_assoc]; rfl
              · have h4 := hsc.out
                rw [if_neg (by rw [h3]; decide)] at h4
                rw [hsp.out, h4, if_pos hm]
  · replace h2 : Lib.hasPrefix p [47] = false := by simpa using h2
    have e : splitB p = none := by
      cases p with
      | nil => rfl
      | cons c r =>
        have hc : ¬ c = 47 := by rintro rfl; simp [Lib.hasPrefix] at h2
        unfold splitB
        rw [if_neg hn]
        simp only [hc, if_false]
    have ht : ToldS p w w (.slice none 0 0) := ⟨by rw [e]; exact TxtsAt.nil _ _ _, Below.refl _ _⟩
    replace e := hidden e
    replace ht := hidden ht
    rw [h2] at kP
    clear hn h2
    go_enter Tryz.func73, Tryz.ntmps73
    go_wp2_with fail
    refine kP.out.mono ?_
    rintro e1 w1 ⟨rfl, hw⟩
    subst w1
    go_wp2
    go_ret2
    exact ⟨_, by rw [e.out]; rfl, ht.out⟩
theorem below_drewQ (w : World) (q : Nat) : Below w.heap.size w (w.drewN q) := by
  induction q with
  | zero => exact Below.refl _ _
  | succ q ih => exact ih.drew
theorem map_mk (l : List (List UInt8)) (j : Nat) (hj : j < (l.map mkB).length) : (l.map mkB).getD j ByteArray.empty = mkB (l[j]'(by simpa using hj)) := by
  simp at hj
  simp [List.getD, hj]
theorem equalT_calls (v u : Value) (l m : List (List UInt8)) (w : World) (h1 : TxtsAt w v l) (h2 : TxtsAt w u m) (hl : l.length <= 1000) (hm : m.length <= 1000) :
    Calls Tryz.prog 182 #[v, u] w fun e w' => e = .returned (.bool (decide (l = m))) /\ Below w.heap.size w w' := by
  obtain ⟨a, cap, rfl, hcap, hc⟩ := h1
  obtain ⟨b, cap2, rfl, hcap2, hc2⟩ := h2
  by_cases hn : l.length = m.length
  · cases l with
    | nil =>
      cases m with
      | nil => exact (Tryz.slices_Equal_string_empty a b cap 0 cap2 w (by omega)).mono fun e w' ⟨he, hw⟩ => ⟨he, hw ▸ Below.refl _ _⟩
      | cons y r => simp at hn
    | cons x l =>
      cases m with
      | nil => simp at hn
      | cons y m =>
        obtain ⟨b1, o1, rfl, hb1, hx1⟩ := hc (by simp)
        obtain ⟨b2, o2, rfl, hb2, hx2⟩ := hc2 (by simp)
        have hk := Tryz.slices_Equal_string b1 o1 (x :: l).length cap b2 o2 (y :: m).length cap2 ((x :: l).map mkB) ((y :: m).map mkB) w (by simp) (by simp) (by omega) (by omega)
          (fun j hj => by rw [map_mk _ _ hj]; exact hx1 j _ (List.getElem?_eq_getElem _)) (fun j hj => by rw [map_mk _ _ hj]; exact hx2 j _ (List.getElem?_eq_getElem _))
        refine hk.mono fun e w' ⟨he, q, hw⟩ => ⟨?_, by rw [hw]; exact below_drewQ w q⟩
        rw [he]
        have e1 : ∀ z : List (List UInt8), (z.map mkB).take z.length = z.map mkB := fun z => by rw [List.take_of_length_le (by simp)]
        rw [e1, e1]
        have e2 : ((x :: l).map mkB = (y :: m).map mkB) <-> (x :: l = y :: m) := ⟨fun h => (List.map_inj_right (fun _ _ => mk_inj)).1 h, fun h => by rw [h]⟩
        rw [decide_eq_decide.2 e2]
  · refine (Tryz.slices_Equal_string_lens a b l.length cap m.length cap2 w hn).mono fun e w' ⟨he, hw⟩ => ⟨?_, hw ▸ Below.refl _ _⟩
    rw [he]
    have : ¬ l = m := fun h => hn (by rw [h])
    simp [this]
def namesB (p : List UInt8) : List (List UInt8) := (splitB p).getD []
theorem names_may (p : List UInt8) : mayP (namesB p) = true := by
  unfold namesB
  cases h : splitB p with
  | none => rfl
  | some l => exact split_may h
theorem told_at {p : List UInt8} {w w' : World} {v : Value} (h : ToldS p w w' v) : TxtsAt w' v (namesB p) := h.1
def withinB (p d : List UInt8) : Bool := (splitB p).isSome && (splitB d).isSome && decide ((namesB d).length <= (namesB p).length) && decide ((namesB p).take (namesB d).length = namesB d)
theorem within_def (p d : List UInt8) : withinB p d = ((splitB p).isSome && (splitB d).isSome && decide ((namesB d).length <= (namesB p).length) && decide ((namesB p).take (namesB d).length = namesB d)) := rfl
theorem within_calls (p d : List UInt8) (w : World) (hp : p.length <= 2000) (hd : d.length <= 2000) : Calls Tryz.prog 134 #[.string (mkB p), .string (mkB d)] w fun e w' => e = .returned (.bool (withinB p d)) /\ Below w.heap.size w w' := by
  have kS := hidden (split_calls p w hp)
  have kS2 := hidden (fun w1 => split_calls d w1 hd)
  have hm1 := (may_all (names_may p)).1
  have hm2 := (may_all (names_may d)).1
  have hW := hidden (within_def p d)
  go_enter Tryz.func134, Tryz.ntmps134
  go_wp2_with fail
  refine kS.out.mono ?_
  rintro e w1 ⟨v, rfl, ht⟩
  clear kS
  go_wp2_with fail
  refine (kS2.out w1).mono ?_
  rintro e w2 ⟨u, rfl, ht2⟩
  clear kS2
  have hB := hidden (ht.2.trans (ht2.2.mono ht.2.size))
  have hT := hidden ((told_at ht).below ht2.2)
  have hT2 := hidden (told_at ht2)
  clear ht ht2
  cases h1 : (splitB p).isSome
  · rw [h1] at hW
    go_wp2
    go_ret
    exact ⟨by rw [hW.out]; rfl, hB.out⟩
  cases h2 : (splitB d).isSome
  · rw [h1, h2] at hW
    go_wp2
    go_ret
    exact ⟨by rw [hW.out]; rfl, hB.out⟩
  rw [h1, h2] at hW
  clear h1 h2
  obtain ⟨a, cap, rfl, hcap, -⟩ := hT.out
  obtain ⟨a2, cap2, rfl, -, -⟩ := hT2.out
  by_cases hle : (namesB d).length <= (namesB p).length
  · have hle' : ((namesB d).length : Int) <= ((namesB p).length : Int) := by omega
    have hc' : ((namesB d).length : Int) <= (cap : Int) := by omega
    have kE := hidden (equalT_calls _ _ _ _ w2 (hT.out.take (namesB d).length hle) hT2.out (by rw [List.length_take]; omega) (by omega))
    rw [show decide ((namesB d).length <= (namesB p).length) = true by simp [hle]] at hW
    clear hle hT hT2
    generalize decide ((namesB p).take (namesB d).length = namesB d) = q at *
    generalize (namesB d).length = n at *
    generalize (namesB p).length = n2 at *
    go_wp2_with fail
    refine kE.out.mono ?_
    rintro e w3 ⟨rfl, hB3⟩
    have hBB := hidden (hB.out.trans (hB3.mono hB.out.size))
    clear kE hB3
    go_wp2
    go_ret
    exact ⟨by rw [hW.out]; rfl, hBB.out⟩
  · have hle' : ¬ ((namesB d).length : Int) <= ((namesB p).length : Int) := by omega
    rw [show decide ((namesB d).length <= (namesB p).length) = false by simp; omega] at hW
    clear hle
    generalize (namesB d).length = n at *
    generalize (namesB p).length = n2 at *
    go_wp2
    go_ret
    exact ⟨by rw [hW.out]; rfl, hB.out⟩
end Go.Proofs.YtpofmiecjkghgaaGreatDoor
namespace Go.Proofs.YtpofmiecjkghgaaGreatDoor
open Go.RowKit Go.Extern.Stop Go.Stop Go.Extern Go.Maps Go.Sort Go.Shelf
set_option maxRecDepth 100000
set_option maxHeartbeats 8000000
theorem apart_ok (p : List UInt8) (hp : p.length <= 2000) {l : List (List UInt8)} {s : List UInt8} (h : splitB p = some (l ++ [s])) (top : Int) (w : World) :
    Calls Tryz.prog 58 #[.string (mkB p), .int .i64 top] w fun e w' => ∃ v, e = .returned (.tuple #[v, .string (mkB s), .nilIface]) /\ TxtsAt w' v l /\ Below w.heap.size w w' := by
  have kS := split_calls p w hp
  unfold ToldS at kS
  rw [h] at kS
  have hl6 := (may_all (split_may h)).1
  replace kS := hidden kS
  go_enter Tryz.func58, Tryz.ntmps58
  go_wp2_with fail
  refine (kS.out).mono ?_
  rintro ev w1 ⟨v, rfl, hT, hB⟩
  have hT' : TxtsAt w1 v (l ++ [s]) := hT
  have hT2 := hT'
  obtain ⟨a, cap, rfl, hlc, hcs⟩ := hT'
  obtain ⟨b, off, rfl, hbl, hx⟩ := hcs (by simp)
  have cl := hx l.length s (by simp)
  have hTk := hT2.take l.length (by simp)
  rw [List.take_left' rfl] at hTk
  have hlen : (l ++ [s]).length = l.length + 1 := by simp
  rw [hlen] at hlc hl6 ⊢
  have hE := hidden (And.intro (hTk.below (below_drew1 w1)) (hB.trans ((below_drew1 w1).mono hB.size)))
  clear hT hTk hcs hx hB kS hT2 hlen
  generalize l.length = n at *
  have h0 : ¬ (n : Int) + 1 = 0 := by omega
  have hnc : (n : Int) <= (cap : Int) := by omega
  have hn1 : (n : Int) < (n : Int) + 1 := by omega
  dsimp only [Option.isSome]
  go_upto_region 7 with fail
  go_region_with fail
  all_goals
    go_wp2
    go_ret3
    exact ⟨_, rfl, hE.out⟩
theorem cnt_pos {K : Nat -> Nat} {id : Nat} (h1 : 1 <= id) (hk : K id = 0) : ∀ j, id < j -> 0 < cntN K j
  | 0, h => by omega
  | j + 1, h => by
    unfold cntN
    by_cases e : id = j
    · subst e; rw [if_pos ⟨h1, hk⟩]; omega
    · have := cnt_pos h1 hk j (by omega)
      omega
section
variable {fb rs hb : Nat} {E : TE} {w w' : World} {K : Nat -> Nat} {D : Nat -> List Int} {T : Nat -> List Rec} {f u lim : Nat}
theorem add_ok (hF : FsAt fb E rs hb w) (h : S8 E K D f u lim w) (ok : E.Ok) (hkk : E.kk = E.k) {p db : Nat} {L : List Rec} (p1 : 1 <= p) (p2 : p <= E.tn) (hk : K p = 2) (hD : D p = recsL L) (hg : GoodL L) (hd : DirAt E db p w) (s : List UInt8) (hs : okB s = true) (hno : ∀ r ∈ L, r.s ≠ s) (hl : L.length < 120)
    (kind : Nat) (hkind : kind = 1 \/ kind = 2) (id : Nat) (h1 : 1 <= id) (h2 : id <= E.tn) (hfree : K id = 0) (hlow : ∀ i, 1 <= i -> i < id -> K i ≠ 0) (hR : E.R id) (hRp : E.R p) (hWp : E.W p) (size : Nat) (all : Bool) (gn : Nat) (hgn : growb ((32 * L.length : Nat) : Int) ((32 * (L.length + 1) : Nat) : Int) = (gn : Int)) (hgu : gn <= u) (hmay : mayB (f : Int) (rs : Int) ((gn : Int) + growb 0 (size : Int)) all = true) :
    Calls Tryz.prog 62 #[ptr fb, ptr db, .string (mkB s), .int .i64 (kind : Nat), .int .i64 (size : Nat), .bool all] w fun e w' => e = .returned (.tuple #[.int .i64 (id : Nat), .nilIface]) /\ (∃ f' u', S8 E (upd K id kind) (upd D p (recsL (L ++ [⟨s, id⟩]))) f' u' lim w' /\ f' + gn = f /\ u <= u' + gn) /\ Apart [E.mb] w w' := by
  have hpi : p ≠ id := by rintro rfl; omega
  have htn := ok.tn
  have hfk : f <= 2100 := by
    obtain ⟨mem, wr, M, N, q1, q2, q3, q4, q5, q6, q7, q8⟩ := h
    have := freeN_le (bitM mem M E.ma) E.k
    have := ok.k
    omega
  have hne := hd.ne h
  have kWi := widen_calls (h.dl hD hg hd) (eok ok p1 p2 hk _) hl
  rw [hgn] at kWi
  replace kWi := hidden kWi
  have kLe := hidden (fun (wx : World) (hx : Below w.heap.size w wx) => S8.left ok (h.more hx))
  have kGr := hidden (fun (wx : World) => grow_calls 0 (size : Int) wx)
  have kMy := hidden (fun (wx : World) (hx : Below w.heap.size w wx) => fmay_calls (hF.below hx) (h.more hx) ok hkk ((gn : Int) + growb 0 (size : Int)) all (yes := true) (fun wy => by have := may_calls (f : Int) (rs : Int) ((gn : Int) + growb 0 (size : Int)) all (by omega) wy; rw [hmay] at this; exact this))
  have kMk := hidden (fun (wx : World) (hx : Below w.heap.size w wx) => S8.make ok (h.more hx) kind hkind id h1 h2 hfree hlow hR)
  have kFs := hidden (fun (wx : World) (hx : Below w.heap.size w wx) => (hF.below hx).c2)
  have hK' : (upd K id kind) p = 2 := by rw [upd_other _ _ hpi]; exact hk
  have kPu := hidden (fun (wx : World) (hS : S8 E (upd K id kind) D f u lim wx) (hx : DirAt E db p wx) => by
    have hfit : (dx E p (upd K id kind) D L.length f u lim).Fit (recsL L) (32 * (L.length + 1)) := Or.inr (by
      have hb := bkL_eq L.length
      have hrl := recsL_len hg.each
      rw [hrl]
      show ((bkL L.length : Nat) : Int) <= blk ((32 * L.length : Nat) : Int) /\ blk ((32 * (L.length + 1) : Nat) : Int) <= ((bkL L.length : Nat) : Int) + (u : Int)
      unfold growb at hgn
      omega)
    exact dPut_ok (hS.dl hD hg hx) (eok ok p1 p2 hK' _) ⟨hRp, hWp⟩ hfit s id hs h1 (by omega) hno hl)
  have hcnt := cnt_pos h1 hfree (E.tn + 1) (by omega)
  have hcn : ¬ ((cntN K (E.tn + 1) : Nat) : Int) = 0 := by omega
  have hgr := growb_range 0 (size : Int)
  have hgz : gn <= 100 := by have := growb_range ((32 * L.length : Nat) : Int) ((32 * (L.length + 1) : Nat) : Int); omega
  have hlt := hF.lt
  have hdd := hidden hd
  have hend := hidden (fun (wx : World) (hx : DL (dx E p (upd K id kind) D L.length f u lim) db (L ++ [⟨s, id⟩]) wx) => show ∃ f' u', S8 E (upd K id kind) (upd D p (recsL (L ++ [⟨s, id⟩]))) f' u' lim wx /\ f' + gn = f /\ u <= u' + gn from by
    obtain ⟨f', u', r1, r2, r3⟩ := hx.s8
    have hb := bkL_eq L.length
    have hb1 := bkL_eq (L.length + 1)
    rw [List.length_append, List.length_singleton] at r2 r3
    have hup : blk ((32 * L.length : Nat) : Int) <= blk ((32 * (L.length + 1) : Nat) : Int) := blk_upD (by omega) (by omega) (by omega)
    have hgg : (gn : Int) = blk ((32 * (L.length + 1) : Nat) : Int) - blk ((32 * L.length : Nat) : Int) := by unfold growb at hgn; omega
    have := r3 (by omega)
    exact ⟨f', u', r1, by omega, by omega⟩)
  clear hF h hD hd hmay hK' hno hgn
  generalize hcq : ((cntN K (E.tn + 1) : Nat) : Int) = CN at *
  generalize hgq : growb 0 (size : Int) = GS at *
  clear hcq hgq hcnt
  go_enter Tryz.func62, Tryz.ntmps62
  go_wp2_with fail
  refine (kWi.out).mono ?_
  rintro ev w1 ⟨rfl, hB1⟩
  have c21 := kFs.out _ hB1
  have hl1 : fb < w1.heap.size := lt_of_cell (a := ⟨fb, 2, none⟩) c21
  have kLe1 := hidden (kLe.out _ hB1)
  replace hB1 := hidden hB1
  clear kWi kLe
  go_wp2_with fail
  refine (kLe1.out).mono ?_
  rintro ev w2 ⟨rfl, hB2⟩
  have hb2 := hB1.out.trans (hB2.mono hB1.out.size)
  have kMy2 := hidden (kMy.out _ hb2)
  replace hb2 := hidden hb2
  clear kLe1 hB2 hB1 c21 kMy
  go_wp2_with fail
  refine (kGr.out _).mono ?_
  rintro ev wq ⟨rfl, hwq⟩
  subst wq
  go_wp2_with fail
  refine (kMy2.out).mono ?_
  rintro ev w3 ⟨rfl, hB3⟩
  have hb3 := hb2.out.trans (hB3.mono hb2.out.size)
  have c23 := kFs.out _ hb3
  have hl3 : fb < w3.heap.size := lt_of_cell (a := ⟨fb, 2, none⟩) c23
  have kMk3 := hidden (kMk.out _ hb3)
  replace hb3 := hidden hb3
  clear kMy2 hB3 hb2 kMk kGr
  dsimp only [if_true]
  go_wp2_with fail
  refine (kMk3.out).mono ?_
  rintro ev w4 ⟨rfl, hS4, hA4⟩
  have hd4 := (hdd.out.below hb3.out).keep hA4 (by simpa using hne)
  have kP4 := hidden (kPu.out w4 hS4 hd4)
  have hA04 := hidden ((Apart.of_below (bs := [E.mb]) hb3.out).trans hA4)
  clear hS4 hA4 kMk3 hd4 kPu
  go_wp2_with fail
  refine (kP4.out).mono ?_
  rintro ev w5 ⟨rfl, hD5, hA5⟩
  have hE := hidden (And.intro (hend.out _ hD5) (hA04.out.trans hA5))
  clear hD5 hA5 kP4
  go_wp2
  go_ret2
  exact ⟨rfl, hE.out⟩
end
section
variable {fb rs hb : Nat} {E : TE} {w w' : World} {K : Nat -> Nat} {D : Nat -> List Int} {T : Nat -> List Rec} {f u lim : Nat}
theorem target_new (hF : FsAt fb E rs hb w) (h : S8 E K D f u lim w) (ok : E.Ok) (hkk : E.kk = E.k) (ht : TreeOk E.tn K D T) (htn : 1 <= E.tn) {v : Value} {l : List (List UInt8)} (hv : TxtsAt w v l) (hll : l.length <= 1000) (hok : ∀ s ∈ l, okB s = true) {p : Nat} (hp : dirT K T l = .ok p) (s : List UInt8) (hs : okB s = true) (hno : lookT (T p) s = none) (hl : (T p).length < 120)
    (id : Nat) (h1 : 1 <= id) (h2 : id <= E.tn) (hfree : K id = 0) (hlow : ∀ i, 1 <= i -> i < id -> K i ≠ 0) (hR : E.R id) (hRp : E.R p) (hWp : E.W p) (size : Nat) (all : Bool) (gn : Nat) (hgn : growb ((32 * (T p).length : Nat) : Int) ((32 * ((T p).length + 1) : Nat) : Int) = (gn : Int)) (hgu : gn <= u) (hmay : mayB (f : Int) (rs : Int) ((gn : Int) + growb 0 (size : Int)) all = true) :
    Calls Tryz.prog 64 #[ptr fb, v, .string (mkB s), .int .i64 (size : Nat), .bool all] w fun e w' => e = .returned (.tuple #[.int .i64 (id : Nat), .nilIface]) /\ (∃ f' u', S8 E (upd K id 1) (upd D p (recsL (T p ++ [⟨s, id⟩]))) f' u' lim w' /\ f' + gn = f /\ u <= u' + gn) /\ Apart [E.mb] w w' := by
  have kDa := hidden (dirAt_calls hF h ok ht htn hv hll hok)
  have kCh := hidden (fun (wx : World) (db : Nat) (p1 : 1 <= p) (p2 : p <= E.tn) (hk : K p = 2) (hx : Below w.heap.size w wx) (hd : DirAt E db p wx) => child_none (fb := fb) (h.more hx) ok p1 p2 hk (ht.recs p p1 p2 hk).1 (ht.recs p p1 p2 hk).2 hd s hs (lookT_none hno))
  have kAd := hidden (fun (wx : World) (db : Nat) (p1 : 1 <= p) (p2 : p <= E.tn) (hk : K p = 2) (hx : Below w.heap.size w wx) (hd : DirAt E db p wx) => add_ok (hF.below hx) (h.more hx) ok hkk p1 p2 hk (ht.recs p p1 p2 hk).1 (ht.recs p p1 p2 hk).2 hd s hs (lookT_none hno) hl 1 (Or.inl rfl) id h1 h2 hfree hlow hR hRp hWp size all gn hgn hgu hmay)
  obtain ⟨a, cap, rfl, -⟩ := hv
  replace hp := hidden hp
  clear hF h ok ht hok hgn hmay hfree hlow hgu hno
  generalize l.length = LL at *
  go_enter Tryz.func64, Tryz.ntmps64
  go_wp2_with fail
  refine (kDa.out).mono ?_
  rintro ev w1 ⟨(⟨q, db, hq, rfl, hd1, hdb, q1, q2, q3⟩ | ⟨m, bk, nm, hq, -⟩), hB1⟩
  rotate_left
  · rw [hp.out] at hq; cases hq
  obtain rfl : p = q := by rw [hp.out] at hq; exact Except.ok.inj hq
  have kC1 := hidden (kCh.out w1 db q1 q2 q3 hB1 hd1)
  have hA1 := hidden (And.intro hB1 hd1)
  clear kDa kCh hB1 hd1 hq
  go_wp2_with fail
  refine (kC1.out).mono ?_
  rintro ev w2 ⟨bk, rfl, hc, hB2⟩
  obtain ⟨w3, hw3, hB3, hN3⟩ : ∃ w3, w2.alloc (Obj.cells #[.int .i64 0, .int .i64 0] 105) = w3 /\ Below w2.heap.size w2 w3 /\ FnAt w3 w2.heap.size 0 0 := ⟨_, rfl, (Below.refl _ _).alloc (Nat.le_refl _) _, fn_new _ _ _⟩
  have kI := is_chain 11 11 w3 _ _ (Chain.below hB3 _ _ _ hc)
  have hb3 : Below w.heap.size w w3 := hA1.out.1.trans ((hB2.trans (hB3.mono hB2.size)).mono hA1.out.1.size)
  have hd3 : DirAt E db p w3 := (hA1.out.2.below hB2).below hB3
  have kA3 := hidden (kAd.out w3 db q1 q2 q3 hb3 hd3)
  replace kI := hidden kI
  replace hb3 := hidden hb3
  replace hw3 := hidden hw3
  clear hc hB2 hB3 hN3 kC1 kAd hd3 hA1
  go_upto_region 5 with fail
  rw [hw3.out]
  clear hw3
  go_wp2_with fail
  refine (kI.out).mono ?_
  rintro ev w4 ⟨rfl, hw4⟩
  subst w4
  dsimp only [Int.reduceBEq]
  go_wp2_with fail
  refine (kA3.out).mono ?_
  rintro ev w5 ⟨rfl, hS5, hA5⟩
  have hE := hidden (And.intro hS5 ((Apart.of_below (bs := [E.mb]) hb3.out).trans hA5))
  clear hS5 hA5 kA3
  go_wp2
  go_ret2
  exact ⟨rfl, hE.out⟩
end
end Go.Proofs.YtpofmiecjkghgaaGreatDoor
