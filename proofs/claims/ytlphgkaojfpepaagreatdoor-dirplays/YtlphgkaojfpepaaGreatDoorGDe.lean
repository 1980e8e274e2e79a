/- The directory's inner calls: find, put, drop, turn. -/
import Derived.Test.YtlphgkaojfpepaaGreatDoorGDd
import Derived.Test.YtlphgkaojfpepaaGreatDoorGNw
namespace Go.Proofs.YtlphgkaojfpepaaGreatDoor
open Go.RowKit Go.Extern.Stop Go.Stop Go.Extern Go.Maps Go.Sort Go.Shelf
set_option maxRecDepth 100000

/-- A directory whose bytes are the records L. -/
structure DL (E : TE) (db : Nat) (L : List Rec) (w : World) : Prop where
  b : DB E db (recsL L) w
  g : GoodL L
section
variable {E : TE} {db : Nat} {b : List Int} {L : List Rec} {w w' : World}
theorem DL.more (h : DL E db L w) (hb : Below w.heap.size w w') : DL E db L w' := ⟨h.b.more hb, h.g⟩
theorem DL.len (h : DL E db L w) (e : EOk E) : 32 * L.length ≤ 4000 := by
  have := h.b.len e
  rw [recsL_len h.g.each] at this
  exact this
theorem DL.records (h : DL E db L w) (e : EOk E) :
    Calls Tryz.prog 50 #[ptr db] w fun e w' => ∃ v, e = .returned (.tuple #[v, .nilIface]) ∧ RecOwn 104 w.heap.size w' v L ∧ Below w.heap.size w w' := by
  refine (records_calls h.b e).mono ?_
  rintro ev w' ⟨⟨L', v, hp, rfl, hO⟩ | ⟨hp, rfl⟩, hB⟩
  · rw [parse_recs h.g] at hp
    cases hp
    exact ⟨v, rfl, hO, hB⟩
  · rw [parse_recs h.g] at hp
    cases hp
theorem ok_mk (s : List UInt8) (w : World) : Calls Tryz.prog 84 #[.string (mkB s)] w fun e w' => e = .returned (.bool (okB s)) ∧ w' = w := by
  have := ok_calls (mkB s) w
  rw [mk_list] at this
  exact this
/-- find: a name that may not be. -/
theorem dfind_name (s : List UInt8) (hs : okB s = false) :
    Calls Tryz.prog 49 #[ptr db, .string (mkB s)] w fun e w' => e = .returned (.tuple #[.slice none 0 0, .int .i64 0, num 10]) ∧ w' = w := by
  have kO := ok_mk s w
  rw [hs] at kO
  replace kO := hidden kO
  go_enter Tryz.func49, Tryz.ntmps49
  go_wp2_with fail
  refine (kO.out).mono ?_
  rintro ev w2 ⟨rfl, rfl⟩
  go_wp2
  go_ret3
  exact ⟨rfl, rfl⟩
set_option maxHeartbeats 1000000 in
theorem dfind_form (h : DB E db b w) (e : EOk E) (s : List UInt8) (hs : okB s = true) (hp : parseB b = none) :
    Calls Tryz.prog 49 #[ptr db, .string (mkB s)] w fun e w' => e = .returned (.tuple #[.slice none 0 0, .int .i64 0, num 3]) ∧ Below w.heap.size w w' := by
  have kO := ok_mk s w
  rw [hs] at kO
  replace kO := hidden kO
  have kR := hidden (records_calls h e)
  clear h e
  go_enter Tryz.func49, Tryz.ntmps49
  go_wp2_with fail
  refine (kO.out).mono ?_
  rintro ev w2 ⟨rfl, hw2⟩
  subst w2
  go_wp2_with fail
  refine (kR.out).mono ?_
  rintro ev w2 ⟨⟨L', v, hp', rfl, hO⟩ | ⟨-, rfl⟩, hB⟩
  · rw [hp] at hp'
    cases hp'
  · replace hB := hidden hB
    go_wp2
    go_ret3
    exact ⟨rfl, hB.out⟩
set_option maxHeartbeats 1000000 in
theorem dfind_any (h : DL E db L w) (e : EOk E) (s : List UInt8) (hs : okB s = true) :
    Calls Tryz.prog 49 #[ptr db, .string (mkB s)] w fun e w' => ((∃ v i r, e = .returned (.tuple #[v, .int .i64 ((i : Nat) : Int), .nilIface]) ∧ L[i]? = some r ∧ r.s = s ∧ RecOwn 104 w.heap.size w' v L) ∨ ((∀ r ∈ L, r.s ≠ s) ∧ e = .returned (.tuple #[.slice none 0 0, .int .i64 0, num 11]))) ∧ Below w.heap.size w w' := by
  have kO := ok_mk s w
  rw [hs] at kO
  replace kO := hidden kO
  have hL := h.len e
  have kR := hidden (h.records e)
  clear h e
  go_enter Tryz.func49, Tryz.ntmps49
  go_wp2_with fail
  refine (kO.out).mono ?_
  rintro ev w2 ⟨rfl, hw2⟩
  subst w2
  go_wp2_with fail
  refine (kR.out).mono ?_
  rintro ev w2 ⟨v, rfl, hO, hB⟩
  have kP := hidden (place_calls hO.at (by omega) s)
  obtain ⟨la, lc, rfl⟩ := hO.form
  have hE := hidden (And.intro hO hB)
  clear hO hB kR kO
  go_wp2_with fail
  refine (kP.out).mono ?_
  rintro ev w3 ⟨x, rfl, hPl, hB3⟩
  have hF := hidden (And.intro (hE.out.1.below hB3) (hE.out.2.trans (hB3.mono hE.out.2.size)))
  clear hB3 kP
  rcases hPl with ⟨i, r, rfl, hr, hrs⟩ | ⟨rfl, hno⟩
  · have hi0 : ¬ (i : Int) < 0 := by omega
    have hG := hidden (And.intro hr hrs)
    clear hr hrs
    go_wp2
    go_ret3
    exact ⟨Or.inl ⟨_, i, r, rfl, hG.out.1, hG.out.2, hF.out.1⟩, hF.out.2⟩
  · replace hno := hidden hno
    go_wp2
    go_ret3
    exact ⟨Or.inr ⟨hno.out, rfl⟩, hF.out.2⟩
theorem dfind_at (h : DL E db L w) (e : EOk E) {i : Nat} {r : Rec} (hr : L[i]? = some r) :
    Calls Tryz.prog 49 #[ptr db, .string (mkB r.s)] w fun e w' => ∃ v, e = .returned (.tuple #[v, .int .i64 ((i : Nat) : Int), .nilIface]) ∧ RecOwn 104 w.heap.size w' v L ∧ Below w.heap.size w w' := by
  refine (dfind_any h e r.s (h.g.each r (List.mem_of_getElem? hr)).ok).mono ?_
  rintro ev w' ⟨⟨v, j, q, rfl, hq, hqs, hO⟩ | ⟨hno, rfl⟩, hB⟩
  · have : (j : Int) = (i : Int) := Pl.at (L := L) (s := r.s) (Or.inl ⟨j, q, rfl, hq, hqs⟩) h.g.nodup hr rfl
    rw [this]
    exact ⟨v, rfl, hO, hB⟩
  · exact absurd rfl (hno r (List.mem_of_getElem? hr))
theorem dfind_none (h : DL E db L w) (e : EOk E) (s : List UInt8) (hs : okB s = true) (hno : ∀ r ∈ L, r.s ≠ s) :
    Calls Tryz.prog 49 #[ptr db, .string (mkB s)] w fun e w' => e = .returned (.tuple #[.slice none 0 0, .int .i64 0, num 11]) ∧ Below w.heap.size w w' := by
  refine (dfind_any h e s hs).mono ?_
  rintro ev w' ⟨⟨v, j, q, rfl, hq, hqs, hO⟩ | ⟨-, rfl⟩, hB⟩
  · exact absurd hqs (hno q (List.mem_of_getElem? hq))
  · exact ⟨rfl, hB⟩
end
end Go.Proofs.YtlphgkaojfpepaaGreatDoor
/- The directory's put, drop, turn. -/
namespace Go.Proofs.YtlphgkaojfpepaaGreatDoor
open Go.RowKit Go.Extern.Stop Go.Stop Go.Extern Go.Maps Go.Sort Go.Shelf
set_option maxRecDepth 100000

section
variable {E : TE} {db : Nat} {b : List Int} {L : List Rec} {w w' : World}
theorem dput_name (s : List UInt8) (id : Int) (hs : okB s = false) :
    Calls Tryz.prog 46 #[ptr db, .string (mkB s), .int .i64 id] w fun e w' => e = .returned (num 10) ∧ w' = w := by
  have kO := ok_mk s w
  rw [hs] at kO
  replace kO := hidden kO
  go_enter Tryz.func46, Tryz.ntmps46
  go_wp2_with fail
  refine (kO.out).mono ?_
  rintro ev w2 ⟨rfl, rfl⟩
  go_wp2
  go_ret
  exact ⟨rfl, rfl⟩
theorem dput_arg (s : List UInt8) (id : Int) (hs : okB s = true) (hid : ¬ (1 ≤ id ∧ id ≤ 200)) :
    Calls Tryz.prog 46 #[ptr db, .string (mkB s), .int .i64 id] w fun e w' => e = .returned (num 1) ∧ w' = w := by
  have kO := ok_mk s w
  rw [hs] at kO
  replace kO := hidden kO
  by_cases h1 : id < 1
  · go_enter Tryz.func46, Tryz.ntmps46
    go_wp2_with fail
    refine (kO.out).mono ?_
    rintro ev w2 ⟨rfl, rfl⟩
    go_wp2
    go_ret
    exact ⟨rfl, rfl⟩
  · have h2 : (200 : Int) < id := by omega
    go_enter Tryz.func46, Tryz.ntmps46
    go_wp2_with fail
    refine (kO.out).mono ?_
    rintro ev w2 ⟨rfl, rfl⟩
    go_wp2
    go_ret
    exact ⟨rfl, rfl⟩
/-- What put answers. -/
def PutAns (E : TE) (db : Nat) (L : List Rec) (s : List UInt8) (id : Nat) (w : World) (e : Ending) (w' : World) : Prop :=
  ((∃ r ∈ L, r.s = s) ∧ e = .returned (num 12) ∧ Below w.heap.size w w') ∨ ((∀ r ∈ L, r.s ≠ s) ∧ 120 ≤ L.length ∧ e = .returned (num 65) ∧ Below w.heap.size w w') ∨
  ((∀ r ∈ L, r.s ≠ s) ∧ L.length < 120 ∧ e = .returned .nilIface ∧ DL E db (L ++ [⟨s, id⟩]) w' ∧ Apart [E.mb] w w')
set_option maxHeartbeats 2000000 in
theorem dput_any (h : DL E db L w) (e : EOk E) (s : List UInt8) (id : Nat) (hs : okB s = true) (h1 : 1 ≤ id) (h2 : id ≤ 200) :
    Calls Tryz.prog 46 #[ptr db, .string (mkB s), .int .i64 (id : Nat)] w fun e w' => PutAns E db L s id w e w' := by
  have kO := ok_mk s w
  rw [hs] at kO
  replace kO := hidden kO
  have hL := h.len e
  have kR := hidden (h.records e)
  have g1 : ¬ (id : Int) < 1 := by omega
  have g2 : ¬ (200 : Int) < (id : Int) := by omega
  have hg := hidden (And.intro h e)
  clear h e
  go_enter Tryz.func46, Tryz.ntmps46
  go_wp2_with fail
  refine (kO.out).mono ?_
  rintro ev w2 ⟨rfl, hw2⟩
  subst w2
  go_wp2_with fail
  refine (kR.out).mono ?_
  rintro ev w2 ⟨v, rfl, hO, hB⟩
  have kP := hidden (place_calls hO.at (by omega) s)
  obtain ⟨la, lc, rfl⟩ := hO.form
  have hE := hidden hB
  clear hO hB kR kO
  go_wp2_with fail
  refine (kP.out).mono ?_
  rintro ev w3 ⟨x, rfl, hPl, hB3⟩
  have hF := hidden (hE.out.trans (hB3.mono hE.out.size))
  clear hB3 kP hE
  rcases hPl with ⟨i, r, rfl, hr, hrs⟩ | ⟨rfl, hno⟩
  · have hi0 : 0 ≤ (i : Int) := by omega
    have hG := hidden (And.intro hr hrs)
    clear hr hrs
    go_wp2
    go_ret
    exact Or.inl ⟨⟨r, List.mem_of_getElem? hG.out.1, hG.out.2⟩, rfl, hF.out⟩
  · replace hno := hidden hno
    by_cases hm : 120 ≤ L.length
    · have hm' : (120 : Int) ≤ (L.length : Int) := by omega
      go_wp2
      go_ret
      exact Or.inr (Or.inl ⟨hno.out, hm, rfl, hF.out⟩)
    · have hm' : ¬ (120 : Int) ≤ (L.length : Int) := by omega
      have hrg : Rec.Good ⟨s, id⟩ := ⟨hs, h1, by show id < _; omega⟩
      have kL := lay_calls (S2 := 32 * (L.length + 1)) (hg.out.1.b.more hF.out) hg.out.2 L.length ⟨s, id⟩ hrg (by omega) (by rw [recsL_len hg.out.1.g.each]; omega)
      rw [recs_put hg.out.1.g.each hrg.len] at kL
      replace kL := hidden kL
      replace hrg := hidden hrg
      go_wp2_with fail
      refine (kL.out).mono ?_
      rintro ev w4 ⟨rfl, hD, hA⟩
      have hZ := hidden (And.intro (DL.mk hD (hg.out.1.g.put hrg.out (fun q hq => hno.out q hq))) ((Apart.of_below (bs := [E.mb]) hF.out).trans hA))
      clear hD hA kL
      go_wp2
      go_ret
      exact Or.inr (Or.inr ⟨hno.out, by omega, rfl, hZ.out⟩)
theorem ddrop_err {s : List UInt8} {m : Int} (kF : Calls Tryz.prog 49 #[ptr db, .string (mkB s)] w fun e w' => e = .returned (.tuple #[.slice none 0 0, .int .i64 0, num m]) ∧ Below w.heap.size w w') :
    Calls Tryz.prog 47 #[ptr db, .string (mkB s)] w fun e w' => e = .returned (num m) ∧ Below w.heap.size w w' := by
  replace kF := hidden kF
  go_enter Tryz.func47, Tryz.ntmps47
  go_wp2_with fail
  refine (kF.out).mono ?_
  rintro ev w2 ⟨rfl, hB⟩
  replace hB := hidden hB
  go_wp2
  go_ret
  exact ⟨rfl, hB.out⟩
set_option maxHeartbeats 2000000 in
theorem ddrop_ok (h : DL E db L w) (e : EOk E) {i : Nat} {r : Rec} (hr : L[i]? = some r) :
    Calls Tryz.prog 47 #[ptr db, .string (mkB r.s)] w fun e w' => e = .returned .nilIface ∧ DL E db (dropR L i) w' ∧ Apart [E.mb] w w' := by
  have hi : i < L.length := (List.getElem?_eq_some_iff.1 hr).1
  have hL := h.len e
  have kF := hidden (dfind_at h e hr)
  have hg := hidden (And.intro h e)
  replace hr := hidden hr
  obtain ⟨n, hn⟩ : ∃ n, L.length = n + 1 := ⟨L.length - 1, by omega⟩
  clear h e
  go_enter Tryz.func47, Tryz.ntmps47
  go_wp2_with fail
  refine (kF.out).mono ?_
  rintro ev w2 ⟨v, rfl, hO, hB⟩
  obtain ⟨la, lc, rfl⟩ := hO.form
  have hO' := hidden hO
  have hD2 := hidden (hg.out.1.more hB)
  have hBh := hidden hB
  clear hB kF
  have hsub : ((L.length : Nat) : Int) - 1 = (n : Int) := by omega
  by_cases hlast : i = n
  · have kC := dcut_calls hD2.out.b hg.out.2 n (by omega)
    rw [recs_cut hg.out.1.g.each n (by omega)] at kC
    have hdr : dropR L i = L.take n := by
      have := dropR_last (L := L) (by omega)
      rw [hn, show n + 1 - 1 = n by omega] at this
      rw [hlast]
      exact this
    have hgd := hg.out.1.g.drop hi
    replace kC := hidden kC
    replace hdr := hidden hdr
    replace hgd := hidden hgd
    have hii : (i : Int) = (n : Int) := by omega
    clear hO
    go_wp2_with fail
    refine (kC.out).mono ?_
    rintro ev w4 ⟨rfl, hD, hA⟩
    have hZ := hidden (show DL E db (dropR L i) w4 ∧ Apart [E.mb] w w4 from ⟨⟨by rw [hdr.out]; exact hD, hgd.out⟩, (Apart.of_below (bs := [E.mb]) hBh.out).trans hA⟩)
    clear hD hA kC
    go_wp2
    go_ret
    exact ⟨rfl, hZ.out⟩
  · obtain ⟨q, hq⟩ : ∃ q, L[n]? = some q := ⟨_, List.getElem?_eq_getElem (by omega)⟩
    have hqg := hg.out.1.g.each q (List.mem_of_getElem? hq)
    have kL := lay_calls (S2 := 32 * L.length) hD2.out.b hg.out.2 i q hqg (by omega) (by rw [recsL_len hg.out.1.g.each]; omega)
    rw [recs_set hg.out.1.g.each hqg.len i hi] at kL
    replace kL := hidden kL
    obtain ⟨a', c', hv, hcs⟩ := hO.at
    obtain ⟨rfl, -, rfl⟩ := Value.slice.inj hv
    obtain ⟨bb, off, rfl, hbb, hcell⟩ := hcs (by intro e; rw [e] at hi; simp at hi)
    obtain ⟨c0, c1⟩ := hcell n q hq
    have hdr : dropR L i = (L.set i q).take n := by
      have := dropR_get (i := i) (show L[L.length - 1]? = some q by rw [hn]; exact hq)
      rw [hn, show n + 1 - 1 = n by omega] at this
      exact this
    have hgd := hg.out.1.g.drop hi
    replace hdr := hidden hdr
    replace hgd := hidden hgd
    have hii : ¬ (i : Int) = (n : Int) := by omega
    have hnl : (n : Int) < (L.length : Int) := by omega
    have hqg' := hidden hqg
    clear hO hv hcs hcell hqg
    go_wp2_with fail
    refine (kL.out).mono ?_
    rintro ev w4 ⟨rfl, hD, hA⟩
    have hset : ∀ x ∈ L.set i q, x.Good := fun x hx => by
      rcases List.mem_or_eq_of_mem_set hx with hx | rfl
      · exact hg.out.1.g.each x hx
      · exact hqg'.out
    have kC := dcut_calls hD hg.out.2 n (by omega)
    rw [recs_cut hset n (by rw [List.length_set]; omega)] at kC
    replace kC := hidden kC
    have hA4 := hidden ((Apart.of_below (bs := [E.mb]) hBh.out).trans hA)
    clear hD hA kL
    go_wp2_with fail
    refine (kC.out).mono ?_
    rintro ev w5 ⟨rfl, hD, hA⟩
    have hZ := hidden (show DL E db (dropR L i) w5 ∧ Apart [E.mb] w w5 from ⟨⟨by rw [hdr.out]; exact hD, hgd.out⟩, hA4.out.trans hA⟩)
    clear hD hA kC
    go_wp2
    go_ret
    exact ⟨rfl, hZ.out⟩
end
end Go.Proofs.YtlphgkaojfpepaaGreatDoor
/- The directory's turn; wrong. -/
namespace Go.Proofs.YtlphgkaojfpepaaGreatDoor
open Go.RowKit Go.Extern.Stop Go.Stop Go.Extern Go.Maps Go.Sort Go.Shelf
set_option maxRecDepth 100000

abbrev sDir : ByteArray := ⟨#[100, 105, 114]⟩
theorem dwrong_nil (nm : ByteArray) (w : World) : Calls Tryz.prog 45 #[.string nm, .nilIface] w fun e w' => e = .returned .nilIface ∧ w' = w := by
  go_enter Tryz.func45, Tryz.ntmps45
  go_wp2_with fail
  refine (wrap_nil _ _ _).mono ?_
  rintro ev w4 ⟨rfl, rfl⟩
  go_wp2
  go_ret
  exact ⟨rfl, rfl⟩
theorem dwrong_some (nm : ByteArray) (w : World) (l : List (ByteArray × ByteArray)) (bot : Value) (u : TypeId) (v : Value) (hc : Chain w l bot (.iface u v)) :
    Calls Tryz.prog 45 #[.string nm, .iface u v] w fun e w' => ∃ b, e = .returned (flt b) ∧ Chain w' ((sDir, nm) :: l) bot (flt b) ∧ Below w.heap.size w w' := by
  replace hc := hidden hc
  go_enter Tryz.func45, Tryz.ntmps45
  go_wp2_with fail
  refine (wrap_some sDir nm _ _ w).mono ?_
  rintro ev w4 ⟨rfl, rfl⟩
  go_wp2
  go_ret
  exact ⟨_, rfl, Chain.alloc (w := w) sDir nm hc.out, (Below.refl _ _).alloc (Nat.le_refl _) _⟩
theorem dwrong_num (nm : ByteArray) (m : Int) (w : World) :
    Calls Tryz.prog 45 #[.string nm, num m] w fun e w' => ∃ b, e = .returned (flt b) ∧ Chain w' [(sDir, nm)] (num m) (flt b) ∧ Below w.heap.size w w' := dwrong_some nm w [] (num m) _ _ rfl
section
variable {E : TE} {db : Nat} {b : List Int} {L : List Rec} {w w' : World}
theorem dturn_nameA (s t : List UInt8) (hs : okB s = false) :
    Calls Tryz.prog 48 #[ptr db, .string (mkB s), .string (mkB t)] w fun e w' => e = .returned (.tuple #[.string (mkB s), num 10]) ∧ w' = w := by
  have kO := ok_mk s w
  rw [hs] at kO
  replace kO := hidden kO
  go_enter Tryz.func48, Tryz.ntmps48
  go_wp2_with fail
  refine (kO.out).mono ?_
  rintro ev w2 ⟨rfl, rfl⟩
  go_wp2
  go_ret2
  exact ⟨rfl, rfl⟩
theorem dturn_nameB (s t : List UInt8) (hs : okB s = true) (ht : okB t = false) :
    Calls Tryz.prog 48 #[ptr db, .string (mkB s), .string (mkB t)] w fun e w' => e = .returned (.tuple #[.string (mkB t), num 10]) ∧ w' = w := by
  have kO := ok_mk s w
  have kO2 := ok_mk t w
  rw [hs] at kO
  rw [ht] at kO2
  replace kO := hidden kO
  replace kO2 := hidden kO2
  go_enter Tryz.func48, Tryz.ntmps48
  go_wp2_with fail
  refine (kO.out).mono ?_
  rintro ev w2 ⟨rfl, hw2⟩
  subst w2
  go_wp2_with fail
  refine (kO2.out).mono ?_
  rintro ev w2 ⟨rfl, rfl⟩
  go_wp2
  go_ret2
  exact ⟨rfl, rfl⟩
theorem dturn_err {s t : List UInt8} {m : Int} (hs : okB s = true) (ht : okB t = true) (kF : Calls Tryz.prog 49 #[ptr db, .string (mkB s)] w fun e w' => e = .returned (.tuple #[.slice none 0 0, .int .i64 0, num m]) ∧ Below w.heap.size w w') :
    Calls Tryz.prog 48 #[ptr db, .string (mkB s), .string (mkB t)] w fun e w' => e = .returned (.tuple #[.string (mkB s), num m]) ∧ Below w.heap.size w w' := by
  have kO := ok_mk s w
  have kO2 := ok_mk t w
  rw [hs] at kO
  rw [ht] at kO2
  replace kO := hidden kO
  replace kO2 := hidden kO2
  replace kF := hidden kF
  go_enter Tryz.func48, Tryz.ntmps48
  go_wp2_with fail
  refine (kO.out).mono ?_
  rintro ev w2 ⟨rfl, hw2⟩
  subst w2
  go_wp2_with fail
  refine (kO2.out).mono ?_
  rintro ev w2 ⟨rfl, hw2⟩
  subst w2
  go_wp2_with fail
  refine (kF.out).mono ?_
  rintro ev w2 ⟨rfl, hB⟩
  replace hB := hidden hB
  go_wp2
  go_ret2
  exact ⟨rfl, hB.out⟩
/-- What turn answers where the name is there. -/
def TurnAns (E : TE) (db : Nat) (L : List Rec) (i : Nat) (r : Rec) (t : List UInt8) (w : World) (e : Ending) (w' : World) : Prop :=
  (r.s = t ∧ e = .returned (.tuple #[.string (mkB r.s), .nilIface]) ∧ Below w.heap.size w w') ∨
  (r.s ≠ t ∧ (∃ q ∈ L, q.s = t) ∧ e = .returned (.tuple #[.string (mkB t), num 12]) ∧ Below w.heap.size w w') ∨
  (r.s ≠ t ∧ (∀ q ∈ L, q.s ≠ t) ∧ e = .returned (.tuple #[.string (mkB r.s), .nilIface]) ∧ DL E db (L.set i ⟨t, r.id⟩) w' ∧ Apart [E.mb] w w')
set_option maxHeartbeats 2000000 in
theorem dturn_any (h : DL E db L w) (e : EOk E) {i : Nat} {r : Rec} (hr : L[i]? = some r) (t : List UInt8) (ht : okB t = true) :
    Calls Tryz.prog 48 #[ptr db, .string (mkB r.s), .string (mkB t)] w fun e w' => TurnAns E db L i r t w e w' := by
  have hi : i < L.length := (List.getElem?_eq_some_iff.1 hr).1
  have hrg := h.g.each r (List.mem_of_getElem? hr)
  have kO := ok_mk r.s w
  have kO2 := ok_mk t w
  rw [hrg.ok] at kO
  rw [ht] at kO2
  replace kO := hidden kO
  replace kO2 := hidden kO2
  have hL := h.len e
  have kF := hidden (dfind_at h e hr)
  have hg := hidden (And.intro h e)
  have hr' := hidden hr
  have hbq := hidden (mk_beq r.s t)
  clear h e hr
  go_enter Tryz.func48, Tryz.ntmps48
  go_wp2_with fail
  refine (kO.out).mono ?_
  rintro ev w2 ⟨rfl, hw2⟩
  subst w2
  go_wp2_with fail
  refine (kO2.out).mono ?_
  rintro ev w2 ⟨rfl, hw2⟩
  subst w2
  go_wp2_with fail
  refine (kF.out).mono ?_
  rintro ev w2 ⟨v, rfl, hO, hB⟩
  have kP := hidden (place_calls hO.at (by omega) t)
  have hE := hidden (And.intro hO hB)
  obtain ⟨la, lc, rfl⟩ := hO.form
  clear hB kF kO kO2
  by_cases hst : r.s = t
  · have hq : ((mkB r.s).toList == (mkB t).toList) = true := by rw [hbq.out]; exact decide_eq_true hst
    replace hst := hidden hst
    clear hO
    go_wp2
    go_ret2
    exact Or.inl ⟨hst.out, rfl, hE.out.2⟩
  · have hq : ((mkB r.s).toList == (mkB t).toList) = false := by rw [hbq.out]; exact decide_eq_false hst
    replace hst := hidden hst
    clear hO
    go_wp2_with fail
    refine (kP.out).mono ?_
    rintro ev w3 ⟨x, rfl, hPl, hB3⟩
    have hF := hidden (And.intro (hE.out.1.below hB3) (hE.out.2.trans (hB3.mono hE.out.2.size)))
    clear hB3 kP hE
    rcases hPl with ⟨j, q, rfl, hq2, hqs⟩ | ⟨rfl, hno⟩
    · have hi0 : 0 ≤ (j : Int) := by omega
      have hG := hidden (And.intro hq2 hqs)
      clear hq2 hqs
      go_wp2
      go_ret2
      exact Or.inr (Or.inl ⟨hst.out, ⟨q, List.mem_of_getElem? hG.out.1, hG.out.2⟩, rfl, hF.out.2⟩)
    · replace hno := hidden hno
      have hng : Rec.Good ⟨t, r.id⟩ := ⟨ht, hrg.lo, hrg.hi⟩
      have kL := lay_calls (S2 := 32 * L.length) (hg.out.1.b.more hF.out.2) hg.out.2 i ⟨t, r.id⟩ hng (by omega) (by rw [recsL_len hg.out.1.g.each]; omega)
      rw [recs_set hg.out.1.g.each hng.len i hi] at kL
      replace kL := hidden kL
      obtain ⟨a', c', hv, hcs⟩ := hF.out.1.at
      obtain ⟨rfl, -, rfl⟩ := Value.slice.inj hv
      obtain ⟨bb, off, rfl, hbb, hcell⟩ := hcs (by intro e; rw [e] at hi; simp at hi)
      obtain ⟨-, c1⟩ := hcell i r hr'.out
      have hil : (i : Int) < (L.length : Int) := by omega
      have hset := hidden (hg.out.1.g.set hng (i := i) (fun j q hj _ => hno.out q (List.mem_of_getElem? hj)))
      clear hv hcs hcell
      go_wp2_with fail
      refine (kL.out).mono ?_
      rintro ev w4 ⟨rfl, hD, hA⟩
      have hZ := hidden (And.intro (DL.mk hD hset.out) ((Apart.of_below (bs := [E.mb]) hF.out.2).trans hA))
      clear hD hA kL
      go_wp2
      go_ret2
      exact Or.inr (Or.inr ⟨hst.out, hno.out, rfl, hZ.out⟩)
end
end Go.Proofs.YtlphgkaojfpepaaGreatDoor
/- The directory's calls: Find, Put, Drop, Turn, Len. -/
namespace Go.Proofs.YtlphgkaojfpepaaGreatDoor
open Go.RowKit Go.Extern.Stop Go.Stop Go.Extern Go.Maps Go.Sort Go.Shelf
set_option maxRecDepth 100000

section
variable {E : TE} {db : Nat} {b : List Int} {L : List Rec} {w w' : World}
theorem dFind_err {s : List UInt8} {m : Int} (kF : Calls Tryz.prog 49 #[ptr db, .string (mkB s)] w fun e w' => e = .returned (.tuple #[.slice none 0 0, .int .i64 0, num m]) ∧ Below w.heap.size w w') :
    Calls Tryz.prog 15 #[ptr db, .string (mkB s)] w fun e w' => ∃ b, e = .returned (.tuple #[.int .i64 0, flt b]) ∧ Chain w' [(sDir, mkB s)] (num m) (flt b) ∧ Below w.heap.size w w' := by
  replace kF := hidden kF
  have kW := hidden (fun (wx : World) => dwrong_num (mkB s) m wx)
  go_enter Tryz.func15, Tryz.ntmps15
  go_wp2_with fail
  refine (kF.out).mono ?_
  rintro ev w2 ⟨rfl, hB⟩
  replace hB := hidden hB
  go_wp2_with fail
  refine (kW.out _).mono ?_
  rintro ev w3 ⟨bk, rfl, hc, hB3⟩
  have hE := hidden (And.intro hc (hB.out.trans (hB3.mono hB.out.size)))
  clear hc hB3
  go_wp2
  go_ret2
  exact ⟨bk, rfl, hE.out⟩
theorem dFind_at (h : DL E db L w) (e : EOk E) {i : Nat} {r : Rec} (hr : L[i]? = some r) :
    Calls Tryz.prog 15 #[ptr db, .string (mkB r.s)] w fun e w' => e = .returned (.tuple #[.int .i64 (r.id : Nat), .nilIface]) ∧ Below w.heap.size w w' := by
  have hi : i < L.length := (List.getElem?_eq_some_iff.1 hr).1
  have kF := hidden (dfind_at h e hr)
  clear h e
  go_enter Tryz.func15, Tryz.ntmps15
  go_wp2_with fail
  refine (kF.out).mono ?_
  rintro ev w2 ⟨v, rfl, hO, hB⟩
  obtain ⟨a', c', rfl, hcs⟩ := hO.at
  obtain ⟨bb, off, rfl, hbb, hcell⟩ := hcs (by intro e; rw [e] at hi; simp at hi)
  obtain ⟨-, c1⟩ := hcell i r hr
  have hil : (i : Int) < (L.length : Int) := by omega
  replace hB := hidden hB
  replace hr := hidden hr
  clear hO hcs hcell kF
  go_wp2
  go_ret2
  exact ⟨rfl, hB.out⟩
theorem dPut_err {s : List UInt8} {id m : Int} (kF : Calls Tryz.prog 46 #[ptr db, .string (mkB s), .int .i64 id] w fun e w' => e = .returned (num m) ∧ Below w.heap.size w w') :
    Calls Tryz.prog 12 #[ptr db, .string (mkB s), .int .i64 id] w fun e w' => ∃ b, e = .returned (flt b) ∧ Chain w' [(sDir, mkB s)] (num m) (flt b) ∧ Below w.heap.size w w' := by
  replace kF := hidden kF
  have kW := hidden (fun (wx : World) => dwrong_num (mkB s) m wx)
  go_enter Tryz.func12, Tryz.ntmps12
  go_wp2_with fail
  refine (kF.out).mono ?_
  rintro ev w2 ⟨rfl, hB⟩
  replace hB := hidden hB
  go_wp2_with fail
  refine (kW.out _).mono ?_
  rintro ev w3 ⟨bk, rfl, hc, hB3⟩
  have hE := hidden (And.intro hc (hB.out.trans (hB3.mono hB.out.size)))
  clear hc hB3
  go_wp2
  go_ret
  exact ⟨bk, rfl, hE.out⟩
theorem dPut_ok (h : DL E db L w) (e : EOk E) (s : List UInt8) (id : Nat) (hs : okB s = true) (h1 : 1 ≤ id) (h2 : id ≤ 200) (hno : ∀ r ∈ L, r.s ≠ s) (hl : L.length < 120) :
    Calls Tryz.prog 12 #[ptr db, .string (mkB s), .int .i64 (id : Nat)] w fun e w' => e = .returned .nilIface ∧ DL E db (L ++ [⟨s, id⟩]) w' ∧ Apart [E.mb] w w' := by
  have kF := hidden (dput_any h e s id hs h1 h2)
  have kW := hidden (fun (wx : World) => dwrong_nil (mkB s) wx)
  clear h e
  go_enter Tryz.func12, Tryz.ntmps12
  go_wp2_with fail
  refine (kF.out).mono ?_
  rintro ev w2 (⟨⟨r, hr, hrs⟩, -⟩ | ⟨-, hbig, -⟩ | ⟨-, -, rfl, hD, hA⟩)
  · exact absurd hrs (hno r hr)
  · exact absurd hl (by omega)
  · have hE := hidden (And.intro hD hA)
    clear hD hA kF
    go_wp2_with fail
    refine (kW.out _).mono ?_
    rintro ev w3 ⟨rfl, rfl⟩
    go_wp2
    go_ret
    exact ⟨rfl, hE.out⟩
theorem dDrop_err {s : List UInt8} {m : Int} (kF : Calls Tryz.prog 47 #[ptr db, .string (mkB s)] w fun e w' => e = .returned (num m) ∧ Below w.heap.size w w') :
    Calls Tryz.prog 13 #[ptr db, .string (mkB s)] w fun e w' => ∃ b, e = .returned (flt b) ∧ Chain w' [(sDir, mkB s)] (num m) (flt b) ∧ Below w.heap.size w w' := by
  replace kF := hidden kF
  have kW := hidden (fun (wx : World) => dwrong_num (mkB s) m wx)
  go_enter Tryz.func13, Tryz.ntmps13
  go_wp2_with fail
  refine (kF.out).mono ?_
  rintro ev w2 ⟨rfl, hB⟩
  replace hB := hidden hB
  go_wp2_with fail
  refine (kW.out _).mono ?_
  rintro ev w3 ⟨bk, rfl, hc, hB3⟩
  have hE := hidden (And.intro hc (hB.out.trans (hB3.mono hB.out.size)))
  clear hc hB3
  go_wp2
  go_ret
  exact ⟨bk, rfl, hE.out⟩
theorem dDrop_ok (h : DL E db L w) (e : EOk E) {i : Nat} {r : Rec} (hr : L[i]? = some r) :
    Calls Tryz.prog 13 #[ptr db, .string (mkB r.s)] w fun e w' => e = .returned .nilIface ∧ DL E db (dropR L i) w' ∧ Apart [E.mb] w w' := by
  have kF := hidden (ddrop_ok h e hr)
  have kW := hidden (fun (wx : World) => dwrong_nil (mkB r.s) wx)
  clear h e
  go_enter Tryz.func13, Tryz.ntmps13
  go_wp2_with fail
  refine (kF.out).mono ?_
  rintro ev w2 ⟨rfl, hD, hA⟩
  have hE := hidden (And.intro hD hA)
  clear hD hA kF
  go_wp2_with fail
  refine (kW.out _).mono ?_
  rintro ev w3 ⟨rfl, rfl⟩
  go_wp2
  go_ret
  exact ⟨rfl, hE.out⟩
theorem dTurn_err {s t u : List UInt8} {m : Int} (kF : Calls Tryz.prog 48 #[ptr db, .string (mkB s), .string (mkB t)] w fun e w' => e = .returned (.tuple #[.string (mkB u), num m]) ∧ Below w.heap.size w w') :
    Calls Tryz.prog 14 #[ptr db, .string (mkB s), .string (mkB t)] w fun e w' => ∃ b, e = .returned (flt b) ∧ Chain w' [(sDir, mkB u)] (num m) (flt b) ∧ Below w.heap.size w w' := by
  replace kF := hidden kF
  have kW := hidden (fun (wx : World) => dwrong_num (mkB u) m wx)
  go_enter Tryz.func14, Tryz.ntmps14
  go_wp2_with fail
  refine (kF.out).mono ?_
  rintro ev w2 ⟨rfl, hB⟩
  replace hB := hidden hB
  go_wp2_with fail
  refine (kW.out _).mono ?_
  rintro ev w3 ⟨bk, rfl, hc, hB3⟩
  have hE := hidden (And.intro hc (hB.out.trans (hB3.mono hB.out.size)))
  clear hc hB3
  go_wp2
  go_ret
  exact ⟨bk, rfl, hE.out⟩
theorem dTurn_ok {s t u : List UInt8} {Q : World → Prop} (kF : Calls Tryz.prog 48 #[ptr db, .string (mkB s), .string (mkB t)] w fun e w' => e = .returned (.tuple #[.string (mkB u), .nilIface]) ∧ Q w') :
    Calls Tryz.prog 14 #[ptr db, .string (mkB s), .string (mkB t)] w fun e w' => e = .returned .nilIface ∧ Q w' := by
  replace kF := hidden kF
  have kW := hidden (fun (wx : World) => dwrong_nil (mkB u) wx)
  go_enter Tryz.func14, Tryz.ntmps14
  go_wp2_with fail
  refine (kF.out).mono ?_
  rintro ev w2 ⟨rfl, hQ⟩
  replace hQ := hidden hQ
  go_wp2_with fail
  refine (kW.out _).mono ?_
  rintro ev w3 ⟨rfl, rfl⟩
  go_wp2
  go_ret
  exact ⟨rfl, hQ.out⟩
theorem dTurn_same (h : DL E db L w) (e : EOk E) {i : Nat} {r : Rec} (hr : L[i]? = some r) :
    Calls Tryz.prog 14 #[ptr db, .string (mkB r.s), .string (mkB r.s)] w fun e w' => e = .returned .nilIface ∧ Below w.heap.size w w' := by
  refine dTurn_ok (u := r.s) ((dturn_any h e hr r.s (h.g.each r (List.mem_of_getElem? hr)).ok).mono ?_)
  rintro ev w' (⟨-, rfl, hB⟩ | ⟨hne, -⟩ | ⟨hne, -⟩)
  · exact ⟨rfl, hB⟩
  · exact absurd rfl hne
  · exact absurd rfl hne
theorem dTurn_to (h : DL E db L w) (e : EOk E) {i : Nat} {r : Rec} (hr : L[i]? = some r) (t : List UInt8) (ht : okB t = true) (hno : ∀ q ∈ L, q.s ≠ t) :
    Calls Tryz.prog 14 #[ptr db, .string (mkB r.s), .string (mkB t)] w fun e w' => e = .returned .nilIface ∧ DL E db (L.set i ⟨t, r.id⟩) w' ∧ Apart [E.mb] w w' := by
  refine dTurn_ok (u := r.s) (Q := fun w' => DL E db (L.set i ⟨t, r.id⟩) w' ∧ Apart [E.mb] w w') ((dturn_any h e hr t ht).mono ?_)
  rintro ev w' (⟨hst, -⟩ | ⟨-, ⟨q, hq, hqs⟩, -⟩ | ⟨-, -, rfl, hD, hA⟩)
  · exact absurd hst (hno r (List.mem_of_getElem? hr))
  · exact absurd hqs (hno q hq)
  · exact ⟨rfl, hD, hA⟩
theorem dLen_calls (h : DL E db L w) (e : EOk E) :
    Calls Tryz.prog 17 #[ptr db] w fun e w' => e = .returned (.tuple #[.int .i64 (L.length : Nat), .nilIface]) ∧ Below w.heap.size w w' := by
  have kR := hidden (h.records e)
  have kW := hidden (fun (wx : World) => dwrong_nil ⟨#[]⟩ wx)
  clear h e
  go_enter Tryz.func17, Tryz.ntmps17
  go_wp2_with fail
  refine (kR.out).mono ?_
  rintro ev w2 ⟨v, rfl, hO, hB⟩
  obtain ⟨la, lc, rfl⟩ := hO.form
  replace hB := hidden hB
  clear hO kR
  go_wp2_with fail
  refine (kW.out _).mono ?_
  rintro ev w3 ⟨rfl, rfl⟩
  go_wp2
  go_ret2
  exact ⟨rfl, hB.out⟩
end
end Go.Proofs.YtlphgkaojfpepaaGreatDoor
