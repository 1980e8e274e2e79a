/- List: the names, by bytes. -/
import Derived.Test.YtlphgkaojfpepaaGreatDoorGDe
import Derived.Test.YtlphgkaojfpepaaGreatDoorShelf2
import Derived.Sort.OwnSorted
import Derived.Shelf.SortM.Plain
import Derived.Shelf.SortM.SortNone
import Derived.Test.YtlphgkaojfpepaaGreatDoorGIj
namespace Go.Proofs.YtlphgkaojfpepaaGreatDoor
open Go.RowKit Go.Extern.Stop Go.Stop Go.Extern Go.Maps Go.Sort Go.Shelf
set_option maxRecDepth 100000

def sortS (l : List (List UInt8)) : List (List UInt8) := l.mergeSort fun x y => decide (x ≤ y)
theorem sortS_len (l : List (List UInt8)) : (sortS l).length = l.length := List.length_mergeSort _
theorem ssort_calls {base : Nat} {w : World} {v : Value} {l : List (List UInt8)} (h : KeptT base w v l) (hl : l.length ≤ 1000) :
    Calls Tryz.prog 51 #[v] w fun e w' => e = .returned (.tuple #[]) ∧ KeptT base w' v (sortS l) ∧ Below base w w' := by
  have hlt : ∀ g, v.ownBlock = some g → base ≤ g ∧ g < w.heap.size := fun g hg => h.row.lt g hg
  rcases h.row.2 with ⟨rfl, h0⟩ | ⟨g, cap, cur, rfl, h1, hh, h2, h3, h4, h5⟩
  · have hk : l = [] := List.length_eq_zero_iff.1 h0
    subst hk
    refine (AnyM.slices_Sort_string_none Tryz.sortS none 0 w).mono ?_
    rintro e w' ⟨rfl, rfl⟩
    have e0 : sortS [] = [] := by simp [sortS]
    rw [e0]
    exact ⟨rfl, KeptT.nil _ _, Below.refl _ _⟩
  · rw [Nat.mul_one] at h4 h5
    have hg := (hlt g rfl).2
    refine (AnyM.slices_Sort_string Tryz.sortS g 0 cap l w (holds_of_block hh h5) hg (by omega)).mono ?_
    rintro e w' ⟨rfl, n, os, rfl⟩
    have hsl : (l.mergeSort fun x y => decide (x ≤ y)).length = l.length := List.length_mergeSort _
    have hgr : w.grownBy (grow (putRow encStr (Sort.ahead w n) g 0 (l.mergeSort fun x y => decide (x ≤ y)).toArray) os) (some g) := grownBy_sorted _
    refine ⟨rfl, ⟨?_⟩, ?_⟩
    · have := ownsRow_sorted (n := n) (os := os) hsl h1 hh h2 h3 (by rw [Nat.mul_one]; exact h4)
      unfold sortS
      rw [hsl]
      exact this
    · refine ⟨hgr.os, hgr.tape, hgr.output, hgr.size, fun k hk => hgr.block k ?_ ?_⟩
      · exact Nat.lt_of_lt_of_le hk (Nat.le_of_lt (Nat.lt_of_le_of_lt h1 hg))
      · intro e
        cases e
        omega
section
variable {E : TE} {db : Nat} {b : List Int} {L : List Rec} {w w' : World}
theorem KeptT.mono {base base' : Nat} {w : World} {v : Value} {l : List (List UInt8)} (h : KeptT base w v l) (hb : base' ≤ base) : KeptT base' w v l := ⟨⟨h.row.1, by
  rcases h.row.2 with h2 | ⟨g', cap', cur, hv, h1, rest⟩
  · exact .inl h2
  · exact .inr ⟨g', cap', cur, hv, Nat.le_trans hb h1, rest⟩⟩⟩
theorem KeptT.form {base : Nat} {w : World} {v : Value} {l : List (List UInt8)} (h : KeptT base w v l) : ∃ a cap, v = .slice a l.length cap := by
  obtain ⟨a, cap, hv, -⟩ := h.at
  exact ⟨a, cap, hv⟩
set_option maxHeartbeats 1000000 in
theorem dList_form (h : DB E db b w) (e : EOk E) (hp : parseB b = none) :
    Calls Tryz.prog 16 #[ptr db] w fun e w' => ∃ bk, e = .returned (.tuple #[.slice none 0 0, flt bk]) ∧ Chain w' [(sDir, ⟨#[]⟩)] (num 3) (flt bk) ∧ Below w.heap.size w w' := by
  have kR := hidden (records_calls h e)
  have kW := hidden (fun (wx : World) => dwrong_num ⟨#[]⟩ 3 wx)
  clear h e
  go_enter Tryz.func16, Tryz.ntmps16
  go_wp2_with fail
  refine (kR.out).mono ?_
  rintro ev w2 ⟨⟨L', v, hp', rfl, hO⟩ | ⟨-, rfl⟩, hB⟩
  · rw [hp] at hp'
    cases hp'
  · replace hB := hidden hB
    go_wp2_with fail
    refine (kW.out _).mono ?_
    rintro ev w3 ⟨bk, rfl, hc, hB3⟩
    have hE := hidden (And.intro hc (hB.out.trans (hB3.mono hB.out.size)))
    clear hc hB3
    go_wp2
    go_ret2
    exact ⟨bk, rfl, hE.out⟩
set_option maxHeartbeats 2000000 in
theorem dList_calls (h : DB E db b w) (e : EOk E) (hp : parseB b = some L) (hL : L.length ≤ 200) :
    Calls Tryz.prog 16 #[ptr db] w fun e w' => ∃ v, e = .returned (.tuple #[v, .nilIface]) ∧ KeptT w.heap.size w' v (sortS (L.map Rec.s)) ∧ Below w.heap.size w w' := by
  have kR := hidden (records_calls h e)
  clear h e
  go_enter Tryz.func16, Tryz.ntmps16
  go_wp2_with fail
  refine (kR.out).mono ?_
  rintro ev w2 ⟨⟨L', v, hp', rfl, hO⟩ | ⟨hp', rfl⟩, hB⟩
  · rw [hp] at hp'
    cases hp'
    obtain ⟨la, lc, rfl, hcs⟩ := hO.at
    replace hcs := hidden hcs
    have hs2 := hB.size
    replace hB := hidden hB
    clear hO kR hp
    go_wp2_with fail
    go_loopg [6, 20] (L.length + 1) (fun gk l q wr => ∃ k : Nat, k ≤ L.length ∧ gk = L.length + 1 - k ∧ q = .int .i64 k ∧ Hid (KeptT w2.heap.size wr l ((L.map Rec.s).take k) ∧ Below w2.heap.size w2 wr))
    case atStart => exact ⟨0, by omega, rfl, rfl, hidden ⟨KeptT.nil _ _, Below.refl _ _⟩⟩
    case round =>
      obtain ⟨k, hk, hgk, rfl, hI⟩ := hrel
      replace hgk := hidden hgk
      obtain ⟨i1, i2⟩ := hI.out
      have hlk : ((L.map Rec.s).take k).length = k := by rw [List.length_take, List.length_map]; omega
      obtain ⟨na, nc, hv⟩ := i1.form
      rw [hlk] at hv
      subst hv
      replace hlk := hidden hlk
      by_cases hlt : k < L.length
      · obtain ⟨bb, off, rfl, hbb, hcell⟩ := hcs.out (by rintro rfl; simp at hlt)
        obtain ⟨r, hr⟩ : ∃ r, L[k]? = some r := ⟨_, List.getElem?_eq_getElem hlt⟩
        obtain ⟨c0, c1⟩ := hcell k r hr
        replace c0 := (i2.cell (p := ⟨bb, off + k * 2, none⟩) hbb).trans c0
        replace c1 := (i2.cell (p := ⟨bb, off + k * 2 + 1, none⟩) hbb).trans c1
        obtain ⟨w3, hw3, hB3, hR3⟩ : ∃ w3, wr.alloc (.cells #[.string (mkB r.s), .int .i64 (r.id : Nat)] 104) = w3 ∧ Below wr.heap.size wr w3 ∧ RrAt w3 wr.heap.size (mkB r.s) (r.id : Nat) := ⟨_, rfl, (Below.refl _ _).alloc (Nat.le_refl _) _, ⟨by simp, by simp, by simp⟩⟩
        have r0 := hR3.c0
        obtain ⟨w4, hw4, hB4, hc4⟩ : ∃ w4, w3.alloc (.cells #[.string (mkB r.s)] 9) = w4 ∧ Below w3.heap.size w3 w4 ∧ w4.cell? ⟨w3.heap.size, 0, none⟩ = some (.string (mkB r.s)) := ⟨_, rfl, (Below.refl _ _).alloc (Nat.le_refl _) _, by simp⟩
        have hb4 := (i2.trans (hB3.mono i2.size)).trans (hB4.mono (Nat.le_trans i2.size hB3.size))
        obtain ⟨v5, w5, hrun, hK5, hB5⟩ := keptT_append ((i1.below hB3).below hB4) ⟨w3.heap.size, 0, none⟩ 1 r.s hc4 (by rw [hlk.out]; omega) hb4.size 43
        have hstep : (L.map Rec.s).take k ++ [r.s] = (L.map Rec.s).take (k + 1) := by
          rw [List.take_add_one, List.getElem?_map, hr]
          rfl
        rw [hstep] at hK5
        obtain ⟨a5, c5, rfl⟩ := hK5.form
        have hE := hidden (And.intro hK5 (hb4.trans hB5))
        have hlk5 : ((L.map Rec.s).take (k + 1)).length = k + 1 := by rw [List.length_take, List.length_map]; omega
        rw [hlk5] at hE hrun
        replace hrun := hidden hrun
        have hkL : (k : Int) < (L.length : Int) := by omega
        replace hw3 := hidden hw3
        replace hw4 := hidden hw4
        clear i1 i2 hI hcell hR3 hB3 hB4 hc4 hb4 hK5 hB5 hstep hlk5
        go_upto_region 8 with fail
        rw [hw3.out]
        clear hw3
        replace hw4 := hw4.out
        go_wp2_with (at_builtin; refine wpList_append_eq _ _ 43 rfl _ _ _ w5 rfl rfl hrun.out rfl ?_)
        go_roundg (L.length + 1 - (k + 1))
        case measure => rw [hgk.out]; omega
        case rel => exact ⟨k + 1, hlt, rfl, by go_num, hidden hE.out⟩
      · obtain rfl : k = L.length := by omega
        have ht : (L.map Rec.s).take L.length = L.map Rec.s := List.take_of_length_le (by rw [List.length_map]; omega)
        rw [ht] at i1
        have kS := hidden (ssort_calls i1 (by rw [List.length_map]; omega))
        have hE := hidden i2
        clear i1 i2 hI
        go_wp2_with fail
        refine (kS.out).mono ?_
        rintro ev w3 ⟨rfl, hK, hB3⟩
        have hF := hidden (And.intro (hK.mono hs2) (hB.out.trans ((hE.out.trans hB3).mono hs2)))
        clear hK hB3 kS
        go_wp2
        go_ret2
        exact ⟨_, rfl, hF.out⟩
  · rw [hp] at hp'
    cases hp'
end
end Go.Proofs.YtlphgkaojfpepaaGreatDoor
/- Of: the directory that an inode is. -/
namespace Go.Proofs.YtlphgkaojfpepaaGreatDoor
open Go.RowKit Go.Extern.Stop Go.Stop Go.Extern Go.Maps Go.Sort Go.Shelf
set_option maxRecDepth 100000

section
variable {E : TE} {K : Nat → Nat} {D : Nat → List Int} {f lim : Nat} {w w' : World}
theorem S8.kind (ok : E.Ok) (h : S8 E K D f lim w) {id : Nat} (h1 : 1 ≤ id) (h2 : id ≤ E.tn) :
    Calls Tryz.prog 77 #[ptr E.tb, .int .i64 id] w fun e w' => e = .returned (.tuple #[.int .i64 (K id : Nat), .nilIface]) ∧ Below w.heap.size w w' := by
  obtain ⟨mem, wr, M, N, q1, q2, q3, q4, q5, q6⟩ := h
  have := Ino.kind q1 ok q2 h1 h2
  rw [q5] at this
  exact this
set_option maxHeartbeats 1000000 in
theorem S8.kind_bad (h : S8 E K D f lim w) (id : Int) (hi : i64 id) (hid : ¬ (1 ≤ id ∧ id ≤ E.tn)) :
    Calls Tryz.prog 77 #[ptr E.tb, .int .i64 id] w fun e w' => ∃ b, e = .returned (.tuple #[.int .i64 0, flt b]) ∧ Chain w' [(sInode, itoaB id)] (num 1) (flt b) ∧ Below w.heap.size w w' := by
  obtain ⟨mem, wr, M, N, q1, -⟩ := h
  have hG := hidden q1.c.sys.ground
  have kU := hidden (record_bad q1.t id hi hid)
  replace hi := hidden hi
  clear q1
  go_enter Tryz.func77, Tryz.ntmps77
  go_wp2_with fail
  refine (kU.out).mono ?_
  rintro ev w1 ⟨rfl, hB⟩
  obtain ⟨w5, hw5, hB5, hN5⟩ : ∃ w5, w1.alloc (.cells #[.int .i64 0, .int .i64 0, .slice none 0 0] 129) = w5 ∧ Below w1.heap.size w1 w5 ∧ NdAt w5 w1.heap.size 0 0 (.slice none 0 0) := ⟨_, rfl, (Below.refl _ _).alloc (Nat.le_refl _) _, ⟨by simp, by simp, by simp⟩⟩
  have n1 := hN5.c0
  have hB05 := hB.trans (hB5.mono hB.size)
  have hBd := hidden (hB05.trans ((below_drew1 w5).mono hB05.size))
  have kA := hidden (about_num id hi.out 1 w5.drew (hG.out.below hBd.out))
  have kn := hidden (fun (wx : World) (hx : Below w5.drew.heap.size w5.drew wx) => show wx.cell? ⟨w1.heap.size, 0, none⟩ = some (.int .i64 0) from (hx.cell (p := ⟨w1.heap.size, 0, none⟩) (lt_of_cell (a := ⟨w1.heap.size, 0, none⟩) n1)).trans n1)
  clear hB hB5 hN5 hB05 kU hG
  replace hw5 := hidden hw5
  go_upto_region 2 with fail
  rw [hw5.out]
  clear hw5
  go_region_with (go_at_call 53; refine (kA.out).mono ?_; rintro ev w6 ⟨bk, rfl, hc, hB6⟩; have n6 := kn.out _ hB6; have hE := hidden (And.intro hc (hBd.out.trans (hB6.mono hBd.out.size))); clear hc hB6)
  all_goals (go_wp2; go_ret2; exact ⟨bk, rfl, hE.out⟩)
set_option maxHeartbeats 1000000 in
theorem of_ok (ok : E.Ok) (h : S8 E K D f lim w) {id : Nat} (h1 : 1 ≤ id) (h2 : id ≤ E.tn) (hk : K id = 2) :
    Calls Tryz.prog 41 #[ptr E.tb, .int .i64 id] w fun e w' => ∃ db, e = .returned (.tuple #[ptr db, .nilIface]) ∧ w.heap.size ≤ db ∧ w'.cell? ⟨db, 0, none⟩ = some (ptr E.tb) ∧ w'.cell? ⟨db, 1, none⟩ = some (.int .i64 id) ∧ Below w.heap.size w w' := by
  have htn := ok.tn
  have hi : i64 (id : Int) := ⟨by omega, by omega⟩
  have kI := hidden (itoa_below (id : Int) hi h.ground (Below.refl _ _))
  have kK := hidden (fun (wx : World) (hx : Below w.heap.size w wx) => S8.kind ok (h.more hx) h1 h2)
  rw [hk] at kK
  replace hi := hidden hi
  generalize itoaB (id : Int) = nm at kI
  clear h ok
  go_enter Tryz.func41, Tryz.ntmps41
  go_wp2_with fail
  refine (kI.out).mono ?_
  rintro ev w1 ⟨rfl, hB⟩
  have kK1 := hidden (kK.out _ hB)
  replace hB := hidden hB
  go_wp2_with fail
  refine (kK1.out).mono ?_
  rintro ev w2 ⟨rfl, hB2⟩
  have hE := hidden (hB.out.trans (hB2.mono hB.out.size))
  clear hB2 kK1 kK kI
  go_wp2
  go_ret2
  exact ⟨_, rfl, hE.out.size, by simp, by simp, hE.out.alloc hE.out.size _⟩
set_option maxHeartbeats 1000000 in
theorem of_kind (ok : E.Ok) (h : S8 E K D f lim w) {id : Nat} (h1 : 1 ≤ id) (h2 : id ≤ E.tn) (hk : K id ≠ 2) :
    Calls Tryz.prog 41 #[ptr E.tb, .int .i64 id] w fun e w' => ∃ b, e = .returned (.tuple #[.pointer none, flt b]) ∧ Chain w' [(sDir, itoaB id)] (num 14) (flt b) ∧ Below w.heap.size w w' := by
  have htn := ok.tn
  have hi : i64 (id : Int) := ⟨by omega, by omega⟩
  have kI := hidden (itoa_below (id : Int) hi h.ground (Below.refl _ _))
  have kK := hidden (fun (wx : World) (hx : Below w.heap.size w wx) => S8.kind ok (h.more hx) h1 h2)
  have hk' : ¬ ((K id : Nat) : Int) = 2 := by omega
  replace hi := hidden hi
  generalize itoaB (id : Int) = nm at *
  have kW := hidden (fun (wx : World) => dwrong_num nm 14 wx)
  clear h ok
  generalize ((K id : Nat) : Int) = KK at *
  go_enter Tryz.func41, Tryz.ntmps41
  go_wp2_with fail
  refine (kI.out).mono ?_
  rintro ev w1 ⟨rfl, hB⟩
  have kK1 := hidden (kK.out _ hB)
  replace hB := hidden hB
  go_wp2_with fail
  refine (kK1.out).mono ?_
  rintro ev w2 ⟨rfl, hB2⟩
  have hE := hidden (hB.out.trans (hB2.mono hB.out.size))
  clear hB2 kK1 kK kI
  go_wp2_with fail
  refine (kW.out _).mono ?_
  rintro ev w3 ⟨bk, rfl, hc, hB3⟩
  have hF := hidden (And.intro hc (hE.out.trans (hB3.mono hE.out.size)))
  clear hc hB3
  go_wp2
  go_ret2
  exact ⟨bk, rfl, hF.out⟩
set_option maxHeartbeats 1000000 in
theorem of_bad (h : S8 E K D f lim w) (id : Int) (hi : i64 id) (hid : ¬ (1 ≤ id ∧ id ≤ E.tn)) :
    Calls Tryz.prog 41 #[ptr E.tb, .int .i64 id] w fun e w' => ∃ b, e = .returned (.tuple #[.pointer none, flt b]) ∧ Chain w' [(sDir, itoaB id), (sInode, itoaB id)] (num 1) (flt b) ∧ Below w.heap.size w w' := by
  have kI := hidden (itoa_below id hi h.ground (Below.refl _ _))
  have kK := hidden (fun (wx : World) (hx : Below w.heap.size w wx) => S8.kind_bad (h.more hx) id hi hid)
  replace hi := hidden hi
  generalize itoaB id = nm at *
  clear h
  go_enter Tryz.func41, Tryz.ntmps41
  go_wp2_with fail
  refine (kI.out).mono ?_
  rintro ev w1 ⟨rfl, hB⟩
  have kK1 := hidden (kK.out _ hB)
  replace hB := hidden hB
  go_wp2_with fail
  refine (kK1.out).mono ?_
  rintro ev w2 ⟨bk, rfl, hc, hB2⟩
  have hE := hidden (hB.out.trans (hB2.mono hB.out.size))
  have kW := hidden (dwrong_some nm w2 _ _ _ _ hc)
  clear hB2 kK1 kK kI hc
  go_wp2_with fail
  refine (kW.out).mono ?_
  rintro ev w3 ⟨bk2, rfl, hc, hB3⟩
  have hF := hidden (And.intro hc (hE.out.trans (hB3.mono hE.out.size)))
  clear hc hB3
  go_wp2
  go_ret2
  exact ⟨bk2, rfl, hF.out⟩
theorem of_nil (hG : Ground w) :
    Calls Tryz.prog 41 #[.pointer none, .int .i64 1] w fun e w' => ∃ b, e = .returned (.tuple #[.pointer none, flt b]) ∧ Chain w' [(sDir, itoaB 1)] (num 1) (flt b) ∧ Below w.heap.size w w' := by
  have kI := hidden (itoa_below 1 ⟨by decide, by decide⟩ hG (Below.refl _ _))
  generalize itoaB 1 = nm at *
  have kW := hidden (fun (wx : World) => dwrong_num nm 1 wx)
  go_enter Tryz.func41, Tryz.ntmps41
  go_wp2_with fail
  refine (kI.out).mono ?_
  rintro ev w1 ⟨rfl, hB⟩
  replace hB := hidden hB
  go_wp2_with fail
  refine (kW.out _).mono ?_
  rintro ev w3 ⟨bk, rfl, hc, hB3⟩
  have hF := hidden (And.intro hc (hB.out.trans (hB3.mono hB.out.size)))
  clear hc hB3
  go_wp2
  go_ret2
  exact ⟨bk, rfl, hF.out⟩
end
end Go.Proofs.YtlphgkaojfpepaaGreatDoor
/- What a statement of layer 10 makes; its awake. -/
namespace Go.Proofs.YtlphgkaojfpepaaGreatDoor
open Go.RowKit Go.Extern.Stop Go.Stop Go.Extern Go.Maps Go.Sort Go.Shelf
set_option maxRecDepth 100000

/-- Where what a statement of layer 10 made lies: a Map of 80 blocks, of which no more than 60 are ever used. -/
def te10 (w : World) (jb cb mb ab tb : Nat) : TE := { w0 := w, d := w.heap.size + 1, g := w.heap.size, n := 220, jb := jb, cb := cb, mb := mb, at_ := 120, most := 80, blocks := 120, left := -1, ab := ab, ma := 0, fr := 20, k := 60, kk := 80, tb := tb, ta := 5, tn := 6, A := allA 60 }
theorem te10_ok (w : World) (jb cb mb ab tb : Nat) (ha : ab ≠ mb) (ht : tb ≠ mb) : EOk (te10 w jb cb mb ab tb) where
  tn := rfl
  ok := by
    have h := te8_ok w jb cb mb ab tb 60 (by omega) (by omega) ha ht
    exact { fit := ⟨by show 0 < 100000; omega, by show 1 ≤ 80; omega, by show 80 ≤ 2048; omega, by show homeA 0 (80 - 1) < 220; unfold homeA; omega, by show (homeA 0 (80 - 1) : Int) < 120; unfold homeA; omega, by show 20 + 80 ≤ 9223372036854775807; omega⟩, le := by show 60 ≤ 80; omega, live := h.live, abm := h.abm, tbm := h.tbm, few := h.few, most := h.most, low := h.low, home := h.home, recs := h.recs, data := h.data, hd := h.hd, hr := h.hr, dr := h.dr, ta := h.ta, tn := h.tn, fr := h.fr, k := h.k }
theorem s8_new10 {W : World} {jb cb mb ab tb : Nat} {w : World} (h : (te10 W jb cb mb ab tb).St (fun _ => 0) 0 [] w) : S8 (te10 W jb cb mb ab tb) (fun _ => 0) (fun _ => []) 60 0 w := by
  have hz : ∀ no, nowM (fun _ => 0) [] no = zeros 128 := fun no => idle_zero7 no
  have hbit : ∀ i, bitM (fun _ => 0) [] 0 i = false := fun i => bit_zero 0 i
  refine ⟨_, _, _, fun _ => ⟨0, 0, []⟩, h, ⟨fun id _ _ => ⟨⟨Or.inl ⟨rfl, rfl, rfl⟩, by simp, by simp [blk], by simp⟩, hz _⟩, fun _ _ _ => List.nodup_nil, fun _ _ _ z hz => (by cases hz), fun _ _ _ _ _ _ _ z hz => (by cases hz), fun _ _ _ h9 => absurd h9 (by simp), fun _ _ _ => rfl⟩, idle_zero7 120, ⟨by omega, by omega⟩, fun _ => rfl, ?_⟩
  show freeN (bitM (fun _ => 0) [] 0) 60 = 60
  rw [freeN_congr (T := fun _ => false) 60 (fun i _ => hbit i)]
  simp [freeN]
set_option maxHeartbeats 2000000 in
theorem made10_calls (w : World) (hG : Ground w) :
    Calls Tryz.prog 7 #[] w fun e w' => ∃ jb cb mb ab tb db, e = .returned (.tuple #[ptr tb, ptr db]) ∧ EOk (te10 w jb cb mb ab tb) ∧ (∃ f lim, S8 (te10 w jb cb mb ab tb) (upd (fun _ => 0) 1 2) (fun _ => []) f lim w' ∧ f = 60) ∧ DL (te10 w jb cb mb ab tb) db [] w' ∧ w.heap.size ≤ db ∧ Below w.heap.size w w' := by
  have kM := hidden (made120_calls w hG)
  clear hG
  go_enter Tryz.func7, Tryz.ntmps7
  go_wp2_with fail
  refine (kM.out).mono ?_
  rintro ev w1 ⟨jb, cb, mb, rfl, hC⟩
  have hmb := hC.lts.2.2.2.2.1
  have hdg := hC.lts
  have kA := hidden (anew_calls cb 0 20 80 (by omega) (by omega) (by omega) w1)
  replace hC := hidden hC
  clear kM
  go_wp2_with fail
  refine (kA.out).mono ?_
  rintro ev w2 ⟨rfl, hMp, hB2⟩
  have kN := hidden (inew_calls cb w1.heap.size 5 6 (by omega) (by omega) (by omega) w2)
  have hs2 := hB2.size
  have hE2 := hidden (And.intro hMp hB2)
  clear kA hMp hB2
  go_wp2_with fail
  refine (kN.out).mono ?_
  rintro ev w3 ⟨rfl, hTb, hB3⟩
  have ok := hidden (te10_ok w jb cb mb w1.heap.size w2.heap.size (by omega) (by omega))
  have hSt : (te10 w jb cb mb w1.heap.size w2.heap.size).St (fun _ => 0) 0 [] w3 := ⟨(hC.out.more hE2.out.2).more hB3, hE2.out.1.below hB3, hTb, fun p hp => by cases hp⟩
  have h0 := s8_new10 hSt
  have kK := hidden (S8.make ok.out.ok h0 2 (Or.inr rfl) 1 (by omega) (by show 1 ≤ 6; omega) rfl (fun i a b => by omega))
  generalize hab : w1.heap.size = ab at *
  generalize htb : w2.heap.size = tb at *
  clear kN hTb hB3 hE2 hSt h0 hC
  go_wp2_with fail
  refine (kK.out).mono ?_
  rintro ev w4 ⟨rfl, h4, -⟩
  have kO := hidden (of_ok ok.out.ok h4 (id := 1) (by omega) (by show 1 ≤ 6; omega) (by simp [upd]))
  have hah : mb < w4.heap.size := h4.lts.2.2.2.2.1
  replace h4 := hidden h4
  clear kK
  go_wp2_with fail
  refine (kO.out).mono ?_
  rintro ev w5 ⟨db, rfl, hdb, d0, d1, hB5⟩
  have h5 := h4.out.more hB5
  have hbel : Below w.heap.size w w5 := by
    obtain ⟨mem, wr, M, N, q1, -⟩ := h5
    exact q1.c.sys.below
  have hw4 : w.heap.size ≤ w4.heap.size := h4.out.lts.2.2.2.2.2.2.2
  have hmb5 : mb < w4.heap.size := hah
  have hF := hidden (show EOk (te10 w jb cb mb ab tb) ∧ (∃ f lim, S8 (te10 w jb cb mb ab tb) (upd (fun _ => 0) 1 2) (fun _ => []) f lim w5 ∧ f = 60) ∧ DL (te10 w jb cb mb ab tb) db [] w5 ∧ w.heap.size ≤ db ∧ Below w.heap.size w w5 from
    ⟨ok.out, ⟨60, 0, h5, rfl⟩, ⟨⟨⟨_, _, 60, 0, h5, by simp [upd], rfl, by decide⟩, d0, d1, by show db ≠ mb; omega⟩, ⟨fun r hr => (by cases hr), List.nodup_nil⟩⟩, by omega, hbel⟩)
  clear kO hdb d0 d1 hB5 h5 hbel
  go_wp2
  go_ret2
  exact ⟨jb, cb, mb, ab, tb, db, rfl, hF.out⟩
end Go.Proofs.YtlphgkaojfpepaaGreatDoor
/- Layer 10's awake. -/
namespace Go.Proofs.YtlphgkaojfpepaaGreatDoor
open Go.RowKit Go.Extern.Stop Go.Stop Go.Extern Go.Maps Go.Sort Go.Shelf
set_option maxRecDepth 100000

theorem DB.below {E : TE} {db : Nat} {b : List Int} {w : World} (h : DB E db b w) : Below E.w0.heap.size E.w0 w := by
  obtain ⟨K, D, f, lim, ⟨mem, wr, M, N, q1, -⟩, -⟩ := h.s
  exact q1.c.sys.below
theorem DL.from {E : TE} {db : Nat} {L : List Rec} {w W : World} (h : DL E db L w) (hw : E.w0 = W) : Below W.heap.size W w := by
  have := h.b.below
  rw [hw] at this
  exact this
theorem sort_ab : sortS [[98], [97]] = [[97], [98]] := by
  unfold sortS
  simp [List.mergeSort, List.MergeSort.Internal.splitInTwo, List.merge]
  decide
set_option maxHeartbeats 2000000 in
theorem awake10_calls (w : World) (hG : Ground w) :
    Calls Tryz.prog 8 #[] w fun e w' => e = .returned (.bool true) ∧ Below w.heap.size w w' := by
  have kM := hidden (made10_calls w hG)
  clear hG
  go_enter Tryz.func8, Tryz.ntmps8
  go_wp2_with fail
  refine (kM.out).mono ?_
  rintro ev w1 ⟨jb, cb, mb, ab, tb, db, rfl, ok, -, h1, hdb, hB1⟩
  have hw0 : (te10 w jb cb mb ab tb).w0 = w := rfl
  generalize te10 w jb cb mb ab tb = E at ok h1 hw0
  replace hw0 := hidden hw0
  have kP1 := hidden (show Calls Tryz.prog 12 #[ptr db, .string ⟨#[98]⟩, .int .i64 3] w1 _ from dPut_ok h1 ok [98] 3 (by decide) (by omega) (by omega) (fun r hr => by cases hr) (by simp))
  replace ok := hidden ok
  clear kM h1
  go_wp2_with fail
  refine (kP1.out).mono ?_
  rintro ev w2 ⟨rfl, h2, hA2⟩
  have kP2 := hidden (show Calls Tryz.prog 12 #[ptr db, .string ⟨#[97]⟩, .int .i64 4] w2 _ from dPut_ok h2 ok.out [97] 4 (by decide) (by omega) (by omega) (fun r hr => by simp at hr; subst hr; decide) (by simp))
  replace hA2 := hidden hA2
  clear kP1 h2
  go_wp2_with fail
  refine (kP2.out).mono ?_
  rintro ev w3 ⟨rfl, h3, hA3⟩
  have kL := dList_calls h3.b ok.out (parse_recs h3.g) (by simp)
  have e0 : sortS (List.map Rec.s ([] ++ [⟨[98], 3⟩] ++ [⟨[97], 4⟩])) = [[97], [98]] := sort_ab
  rw [e0] at kL
  replace kL := hidden kL
  replace h3 := hidden h3
  clear kP2 hA2 hA3 e0
  go_wp2_with fail
  refine (kL.out).mono ?_
  rintro ev w4 ⟨v, rfl, hV, hB4⟩
  have kF := hidden (show Calls Tryz.prog 15 #[ptr db, .string ⟨#[98]⟩] w4 _ from dFind_at (h3.out.more hB4) ok.out (i := 0) (r := ⟨[98], 3⟩) rfl)
  obtain ⟨la, lc, rfl⟩ := hV.form
  replace hV := hidden hV
  have hb4 := hidden hB4
  clear kL hB4
  go_wp2_with fail
  refine (kF.out).mono ?_
  rintro ev w5 ⟨rfl, hB5⟩
  obtain ⟨w6, hw6, hB6, hT6⟩ : ∃ w6, w5.alloc (.cells #[.string ⟨#[97]⟩, .string ⟨#[98]⟩] 9) = w6 ∧ Below w5.heap.size w5 w6 ∧ TxtsAt w6 (.slice (some ⟨w5.heap.size, 0, none⟩) 2 2) [[97], [98]] := by
    refine ⟨_, rfl, (Below.refl _ _).alloc (Nat.le_refl _) _, _, 2, rfl, Nat.le_refl _, fun _ => ⟨w5.heap.size, 0, rfl, by simp, fun k x hk => ?_⟩⟩
    match k, hk with
    | 0, hk => simp at hk; subst hk; simp [mkB]
    | 1, hk => simp at hk; subst hk; simp [mkB]
  have kS := hidden (sameT_calls _ _ _ _ w6 ((hV.out.at.below hB5).below hB6) hT6 (by simp) (by simp))
  have hbel := hidden (show Below w.heap.size w w6 from by
    have h13 : Below w.heap.size w w3 := h3.out.from hw0.out
    exact ((h13.trans (hb4.out.mono h13.size)).trans (hB5.mono (Nat.le_trans h13.size hb4.out.size))).trans (hB6.mono (Nat.le_trans (Nat.le_trans h13.size hb4.out.size) hB5.size)))
  clear kF hB5 hB6 hT6
  go_wp2_with fail
  refine (kS.out).mono ?_
  rintro ev w7 ⟨rfl, hB7⟩
  have hE := hidden (hbel.out.trans (hB7.mono hbel.out.size))
  clear hB7 kS
  go_wp2
  go_ret
  exact ⟨by simp, hE.out⟩
end Go.Proofs.YtlphgkaojfpepaaGreatDoor
