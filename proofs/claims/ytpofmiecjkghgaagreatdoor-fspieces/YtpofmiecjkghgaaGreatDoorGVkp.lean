/- The directory's inner calls: find, put, drop, turn. -/
import Derived.Test.YtpofmiecjkghgaaGreatDoorGVjp
import Derived.Test.YtpofmiecjkghgaaGreatDoorGNwp
import Derived.Test.YtpofmiecjkghgaaGreatDoorShelf2
import Derived.Sort.OwnSorted
import Derived.Shelf.SortM.Plain
import Derived.Shelf.SortM.SortNone
import Derived.Test.YtpofmiecjkghgaaGreatDoorGVhp
namespace Go.Proofs.YtpofmiecjkghgaaGreatDoor
open Go.RowKit Go.Extern.Stop Go.Stop Go.Extern Go.Maps Go.Sort Go.Shelf
set_option maxRecDepth 100000
set_option maxHeartbeats 4000000
structure DL (X : DX) (db : Nat) (L : List Rec) (w : World) : Prop where
  b : DB X db (recsL L) w
  g : GoodL L
section
variable {X : DX} {db : Nat} {b : List Int} {L : List Rec} {w w' : World}
theorem DL.more (h : DL X db L w) (hb : Below w.heap.size w w') : DL X db L w' := ⟨h.b.more hb, h.g⟩
theorem DL.len (h : DL X db L w) (e : EOk X) : 32 * L.length <= 4000 := by
  have := h.b.len e
  rw [recsL_len h.g.each] at this
  exact this
theorem DL.records (h : DL X db L w) (e : EOk X) :
    Calls Tryz.prog 158 #[ptr db] w fun e w' => ∃ v, e = .returned (.tuple #[v, .nilIface]) /\ RecOwn 209 w.heap.size w' v L /\ Below w.heap.size w w' := by
  refine (records_calls h.b e).mono ?_
  rintro ev w' ⟨⟨L', v, hp, rfl, hO⟩ | ⟨hp, rfl⟩, hB⟩
  · rw [parse_recs h.g] at hp
    cases hp
    exact ⟨v, rfl, hO, hB⟩
  · rw [parse_recs h.g] at hp
    cases hp
theorem ok_mk (s : List UInt8) (w : World) : Calls Tryz.prog 131 #[.string (mkB s)] w fun e w' => e = .returned (.bool (okB s)) /\ w' = w := by
  have := ok_calls (mkB s) w
  rw [mk_list] at this
  exact this
theorem dfind_any (h : DL X db L w) (e : EOk X) (s : List UInt8) (hs : okB s = true) :
    Calls Tryz.prog 166 #[ptr db, .string (mkB s)] w fun e w' => ((∃ v i r, e = .returned (.tuple #[v, .int .i64 ((i : Nat) : Int), .nilIface]) /\ L[i]? = some r /\ r.s = s /\ RecOwn 209 w.heap.size w' v L) \/ ((∀ r ∈ L, r.s ≠ s) /\ e = .returned (.tuple #[.slice none 0 0, .int .i64 0, num 11]))) /\ Below w.heap.size w w' := by
  have kO := ok_mk s w
  rw [hs] at kO
  replace kO := hidden kO
  have hL := h.len e
  have kR := hidden (h.records e)
  clear h e
  go_enter Tryz.func166, Tryz.ntmps166
  go_wp2_with fail
  refine (kO.out).mono ?_
  rintro ev w2 ⟨rfl, hw2⟩
  subst w2
  go_wp2_with fail
  refine (kR.out).mono ?_
  rintro ev w2 ⟨v, rfl, hO, hB⟩
  have kP := hidden (place_calls hO.at (by omega) s)
  obtain ⟨la, lc, rfl⟩ := hO.form
  have hE := hidden (And.intro hO hB)
  clear hO hB kR kO
  go_wp2_with fail
  refine (kP.out).mono ?_
  rintro ev w3 ⟨x, rfl, hPl, hB3⟩
  have hF := hidden (And.intro (hE.out.1.below hB3) (hE.out.2.trans (hB3.mono hE.out.2.size)))
  clear hB3 kP
  rcases hPl with ⟨i, r, rfl, hr, hrs⟩ | ⟨rfl, hno⟩
  · have hi0 : ¬ (i : Int) < 0 := by omega
    have hG := hidden (And.intro hr hrs)
    clear hr hrs
    go_wp2
    go_ret3
    exact ⟨Or.inl ⟨_, i, r, rfl, hG.out.1, hG.out.2, hF.out.1⟩, hF.out.2⟩
  · replace hno := hidden hno
    go_wp2
    go_ret3
    exact ⟨Or.inr ⟨hno.out, rfl⟩, hF.out.2⟩
theorem dfind_at (h : DL X db L w) (e : EOk X) {i : Nat} {r : Rec} (hr : L[i]? = some r) :
    Calls Tryz.prog 166 #[ptr db, .string (mkB r.s)] w fun e w' => ∃ v, e = .returned (.tuple #[v, .int .i64 ((i : Nat) : Int), .nilIface]) /\ RecOwn 209 w.heap.size w' v L /\ Below w.heap.size w w' := by
  refine (dfind_any h e r.s (h.g.each r (List.mem_of_getElem? hr)).ok).mono ?_
  rintro ev w' ⟨⟨v, j, q, rfl, hq, hqs, hO⟩ | ⟨hno, rfl⟩, hB⟩
  · have : (j : Int) = (i : Int) := Pl.at (L := L) (s := r.s) (Or.inl ⟨j, q, rfl, hq, hqs⟩) h.g.nodup hr rfl
    rw [this]
    exact ⟨v, rfl, hO, hB⟩
  · exact absurd rfl (hno r (List.mem_of_getElem? hr))
theorem dfind_none (h : DL X db L w) (e : EOk X) (s : List UInt8) (hs : okB s = true) (hno : ∀ r ∈ L, r.s ≠ s) :
    Calls Tryz.prog 166 #[ptr db, .string (mkB s)] w fun e w' => e = .returned (.tuple #[.slice none 0 0, .int .i64 0, num 11]) /\ Below w.heap.size w w' := by
  refine (dfind_any h e s hs).mono ?_
  rintro ev w' ⟨⟨v, j, q, rfl, hq, hqs, hO⟩ | ⟨-, rfl⟩, hB⟩
  · exact absurd hqs (hno q (List.mem_of_getElem? hq))
  · exact ⟨rfl, hB⟩
end
section
variable {X : DX} {db : Nat} {b : List Int} {L : List Rec} {w w' : World}
def PutAns (X : DX) (db : Nat) (L : List Rec) (s : List UInt8) (id : Nat) (w : World) (e : Ending) (w' : World) : Prop :=
  ((∃ r ∈ L, r.s = s) /\ e = .returned (num 12) /\ Below w.heap.size w w') \/ ((∀ r ∈ L, r.s ≠ s) /\ 120 <= L.length /\ e = .returned (num 65) /\ Below w.heap.size w w') \/
  ((∀ r ∈ L, r.s ≠ s) /\ L.length < 120 /\ e = .returned .nilIface /\ DL X db (L ++ [⟨s, id⟩]) w' /\ Apart [X.E.mb] w w')
theorem dput_any (h : DL X db L w) (e : EOk X) (m : X.May) (hfit : L.length < 120 -> X.Fit (recsL L) (32 * (L.length + 1))) (s : List UInt8) (id : Nat) (hs : okB s = true) (h1 : 1 <= id) (h2 : id <= 200) :
    Calls Tryz.prog 173 #[ptr db, .string (mkB s), .int .i64 (id : Nat)] w fun e w' => PutAns X db L s id w e w' := by
  have kO := ok_mk s w
  rw [hs] at kO
  replace kO := hidden kO
  have hL := h.len e
  have kR := hidden (h.records e)
  replace m := hidden m
  replace hfit := hidden hfit
  have g1 : ¬ (id : Int) < 1 := by omega
  have g2 : ¬ (200 : Int) < (id : Int) := by omega
  have hg := hidden (And.intro h e)
  clear h e
  go_enter Tryz.func173, Tryz.ntmps173
  go_wp2_with fail
  refine (kO.out).mono ?_
  rintro ev w2 ⟨rfl, hw2⟩
  subst w2
  go_wp2_with fail
  refine (kR.out).mono ?_
  rintro ev w2 ⟨v, rfl, hO, hB⟩
  have kP := hidden (place_calls hO.at (by omega) s)
  obtain ⟨la, lc, rfl⟩ := hO.form
  have hE := hidden hB
  clear hO hB kR kO
  go_wp2_with fail
  refine (kP.out).mono ?_
  rintro ev w3 ⟨x, rfl, hPl, hB3⟩
  have hF := hidden (hE.out.trans (hB3.mono hE.out.size))
  clear hB3 kP hE
  rcases hPl with ⟨i, r, rfl, hr, hrs⟩ | ⟨rfl, hno⟩
  · have hi0 : 0 <= (i : Int) := by omega
    have hG := hidden (And.intro hr hrs)
    clear hr hrs
    go_wp2
    go_ret
    exact Or.inl ⟨⟨r, List.mem_of_getElem? hG.out.1, hG.out.2⟩, rfl, hF.out⟩
  · replace hno := hidden hno
    by_cases hm : 120 <= L.length
    · have hm' : (120 : Int) <= (L.length : Int) := by omega
      go_wp2
      go_ret
      exact Or.inr (Or.inl ⟨hno.out, hm, rfl, hF.out⟩)
    · have hm' : ¬ (120 : Int) <= (L.length : Int) := by omega
      have hrg : Rec.Good ⟨s, id⟩ := ⟨hs, h1, by show id < _; omega⟩
      have kL := lay_calls (S2 := 32 * (L.length + 1)) (hg.out.1.b.more hF.out) hg.out.2 m.out L.length ⟨s, id⟩ hrg (by omega) (by rw [recsL_len hg.out.1.g.each]; omega) (hfit.out (by omega))
      rw [recs_put hg.out.1.g.each hrg.len] at kL
      replace kL := hidden kL
      replace hrg := hidden hrg
      go_wp2_with fail
      refine (kL.out).mono ?_
      rintro ev w4 ⟨rfl, hD, hA⟩
      have hZ := hidden (And.intro (DL.mk hD (hg.out.1.g.put hrg.out (fun q hq => hno.out q hq))) ((Apart.of_below (bs := [X.E.mb]) hF.out).trans hA))
      clear hD hA kL
      go_wp2
      go_ret
      exact Or.inr (Or.inr ⟨hno.out, by omega, rfl, hZ.out⟩)
end
abbrev sDir : ByteArray := ⟨#[100, 105, 114]⟩
theorem dwrong_nil (nm : ByteArray) (w : World) : Calls Tryz.prog 157 #[.string nm, .nilIface] w fun e w' => e = .returned .nilIface /\ w' = w := by
  go_enter Tryz.func157, Tryz.ntmps157
  go_wp2_with fail
  refine (wrap_nil _ _ _).mono ?_
  rintro ev w4 ⟨rfl, rfl⟩
  go_wp2
  go_ret
  exact ⟨rfl, rfl⟩
theorem dwrong_some (nm : ByteArray) (w : World) (l : List (ByteArray × ByteArray)) (bot : Value) (u : TypeId) (v : Value) (hc : Chain w l bot (.iface u v)) :
    Calls Tryz.prog 157 #[.string nm, .iface u v] w fun e w' => ∃ b, e = .returned (flt b) /\ Chain w' ((sDir, nm) :: l) bot (flt b) /\ Below w.heap.size w w' := by
  replace hc := hidden hc
  go_enter Tryz.func157, Tryz.ntmps157
  go_wp2_with fail
  refine (wrap_some sDir nm _ _ w).mono ?_
  rintro ev w4 ⟨rfl, rfl⟩
  go_wp2
  go_ret
  exact ⟨_, rfl, Chain.alloc (w := w) sDir nm hc.out, (Below.refl _ _).alloc (Nat.le_refl _) _⟩
theorem dwrong_num (nm : ByteArray) (m : Int) (w : World) :
    Calls Tryz.prog 157 #[.string nm, num m] w fun e w' => ∃ b, e = .returned (flt b) /\ Chain w' [(sDir, nm)] (num m) (flt b) /\ Below w.heap.size w w' := dwrong_some nm w [] (num m) _ _ rfl
section
variable {X : DX} {db : Nat} {b : List Int} {L : List Rec} {w w' : World}
def TurnAns (X : DX) (db : Nat) (L : List Rec) (i : Nat) (r : Rec) (t : List UInt8) (w : World) (e : Ending) (w' : World) : Prop :=
  (r.s = t /\ e = .returned (.tuple #[.string (mkB r.s), .nilIface]) /\ Below w.heap.size w w') \/
  (r.s ≠ t /\ (∃ q ∈ L, q.s = t) /\ e = .returned (.tuple #[.string (mkB t), num 12]) /\ Below w.heap.size w w') \/
  (r.s ≠ t /\ (∀ q ∈ L, q.s ≠ t) /\ e = .returned (.tuple #[.string (mkB r.s), .nilIface]) /\ DL X db (L.set i ⟨t, r.id⟩) w' /\ Apart [X.E.mb] w w')
theorem dturn_any (h : DL X db L w) (e : EOk X) (m : X.May) {i : Nat} {r : Rec} (hr : L[i]? = some r) (t : List UInt8) (ht : okB t = true) :
    Calls Tryz.prog 233 #[ptr db, .string (mkB r.s), .string (mkB t)] w fun e w' => TurnAns X db L i r t w e w' := by
  have hi : i < L.length := (List.getElem?_eq_some_iff.1 hr).1
  have hrg := h.g.each r (List.mem_of_getElem? hr)
  have kO := ok_mk r.s w
  have kO2 := ok_mk t w
  rw [hrg.ok] at kO
  rw [ht] at kO2
  replace kO := hidden kO
  replace kO2 := hidden kO2
  have hL := h.len e
  have kF := hidden (dfind_at h e hr)
  have hg := hidden (And.intro h e)
  have hr' := hidden hr
  have hbq := hidden (mk_beq r.s t)
  replace m := hidden m
  clear h e hr
  go_enter Tryz.func233, Tryz.ntmps233
  go_wp2_with fail
  refine (kO.out).mono ?_
  rintro ev w2 ⟨rfl, hw2⟩
  subst w2
  go_wp2_with fail
  refine (kO2.out).mono ?_
  rintro ev w2 ⟨rfl, hw2⟩
  subst w2
  go_wp2_with fail
  refine (kF.out).mono ?_
  rintro ev w2 ⟨v, rfl, hO, hB⟩
  have kP := hidden (place_calls hO.at (by omega) t)
  have hE := hidden (And.intro hO hB)
  obtain ⟨la, lc, rfl⟩ := hO.form
  clear hB kF kO kO2
  by_cases hst : r.s = t
  · have hq : ((mkB r.s).toList == (mkB t).toList) = true := by rw [hbq.out]; exact decide_eq_true hst
    replace hst := hidden hst
    clear hO
    go_wp2
    go_ret2
    exact Or.inl ⟨hst.out, rfl, hE.out.2⟩
  · have hq : ((mkB r.s).toList == (mkB t).toList) = false := by rw [hbq.out]; exact decide_eq_false hst
    replace hst := hidden hst
    clear hO
    go_wp2_with fail
    refine (kP.out).mono ?_
    rintro ev w3 ⟨x, rfl, hPl, hB3⟩
    have hF := hidden (And.intro (hE.out.1.below hB3) (hE.out.2.trans (hB3.mono hE.out.2.size)))
    clear hB3 kP hE
    rcases hPl with ⟨j, q, rfl, hq2, hqs⟩ | ⟨rfl, hno⟩
    · have hi0 : 0 <= (j : Int) := by omega
      have hG := hidden (And.intro hq2 hqs)
      clear hq2 hqs
      go_wp2
      go_ret2
      exact Or.inr (Or.inl ⟨hst.out, ⟨q, List.mem_of_getElem? hG.out.1, hG.out.2⟩, rfl, hF.out.2⟩)
    · replace hno := hidden hno
      have hng : Rec.Good ⟨t, r.id⟩ := ⟨ht, hrg.lo, hrg.hi⟩
      have kL := lay_calls (S2 := 32 * L.length) (hg.out.1.b.more hF.out.2) hg.out.2 m.out i ⟨t, r.id⟩ hng (by omega) (by rw [recsL_len hg.out.1.g.each]; omega) (Or.inl (by rw [recsL_len hg.out.1.g.each]))
      rw [recs_set hg.out.1.g.each hng.len i hi] at kL
      replace kL := hidden kL
      obtain ⟨a', c', hv, hcs⟩ := hF.out.1.at
      obtain ⟨rfl, -, rfl⟩ := Value.slice.inj hv
      obtain ⟨bb, off, rfl, hbb, hcell⟩ := hcs (by intro e; rw [e] at hi; simp at hi)
      obtain ⟨-, c1⟩ := hcell i r hr'.out
      have hil : (i : Int) < (L.length : Int) := by omega
      have hset := hidden (hg.out.1.g.set hng (i := i) (fun j q hj _ => hno.out q (List.mem_of_getElem? hj)))
      clear hv hcs hcell
      go_wp2_with fail
      refine (kL.out).mono ?_
      rintro ev w4 ⟨rfl, hD, hA⟩
      have hZ := hidden (And.intro (DL.mk hD hset.out) ((Apart.of_below (bs := [X.E.mb]) hF.out.2).trans hA))
      clear hD hA kL
      go_wp2
      go_ret2
      exact Or.inr (Or.inr ⟨hst.out, hno.out, rfl, hZ.out⟩)
end
section
variable {X : DX} {db : Nat} {b : List Int} {L : List Rec} {w w' : World}
theorem dFind_err {s : List UInt8} {m : Int} (kF : Calls Tryz.prog 166 #[ptr db, .string (mkB s)] w fun e w' => e = .returned (.tuple #[.slice none 0 0, .int .i64 0, num m]) /\ Below w.heap.size w w') :
    Calls Tryz.prog 116 #[ptr db, .string (mkB s)] w fun e w' => ∃ b, e = .returned (.tuple #[.int .i64 0, flt b]) /\ Chain w' [(sDir, mkB s)] (num m) (flt b) /\ Below w.heap.size w w' := by
  replace kF := hidden kF
  have kW := hidden (fun (wx : World) => dwrong_num (mkB s) m wx)
  go_enter Tryz.func116, Tryz.ntmps116
  go_wp2_with fail
  refine (kF.out).mono ?_
  rintro ev w2 ⟨rfl, hB⟩
  replace hB := hidden hB
  go_wp2_with fail
  refine (kW.out _).mono ?_
  rintro ev w3 ⟨bk, rfl, hc, hB3⟩
  have hE := hidden (And.intro hc (hB.out.trans (hB3.mono hB.out.size)))
  clear hc hB3
  go_wp2
  go_ret2
  exact ⟨bk, rfl, hE.out⟩
theorem dFind_at (h : DL X db L w) (e : EOk X) {i : Nat} {r : Rec} (hr : L[i]? = some r) :
    Calls Tryz.prog 116 #[ptr db, .string (mkB r.s)] w fun e w' => e = .returned (.tuple #[.int .i64 (r.id : Nat), .nilIface]) /\ Below w.heap.size w w' := by
  have hi : i < L.length := (List.getElem?_eq_some_iff.1 hr).1
  have kF := hidden (dfind_at h e hr)
  clear h e
  go_enter Tryz.func116, Tryz.ntmps116
  go_wp2_with fail
  refine (kF.out).mono ?_
  rintro ev w2 ⟨v, rfl, hO, hB⟩
  obtain ⟨a', c', rfl, hcs⟩ := hO.at
  obtain ⟨bb, off, rfl, hbb, hcell⟩ := hcs (by intro e; rw [e] at hi; simp at hi)
  obtain ⟨-, c1⟩ := hcell i r hr
  have hil : (i : Int) < (L.length : Int) := by omega
  replace hB := hidden hB
  replace hr := hidden hr
  clear hO hcs hcell kF
  go_wp2
  go_ret2
  exact ⟨rfl, hB.out⟩
theorem dPut_ok (h : DL X db L w) (e : EOk X) (m : X.May) (hfit : X.Fit (recsL L) (32 * (L.length + 1))) (s : List UInt8) (id : Nat) (hs : okB s = true) (h1 : 1 <= id) (h2 : id <= 200) (hno : ∀ r ∈ L, r.s ≠ s) (hl : L.length < 120) :
    Calls Tryz.prog 122 #[ptr db, .string (mkB s), .int .i64 (id : Nat)] w fun e w' => e = .returned .nilIface /\ DL X db (L ++ [⟨s, id⟩]) w' /\ Apart [X.E.mb] w w' := by
  have kF := hidden (dput_any h e m (fun _ => hfit) s id hs h1 h2)
  have kW := hidden (fun (wx : World) => dwrong_nil (mkB s) wx)
  clear h e m hfit
  go_enter Tryz.func122, Tryz.ntmps122
  go_wp2_with fail
  refine (kF.out).mono ?_
  rintro ev w2 (⟨⟨r, hr, hrs⟩, -⟩ | ⟨-, hbig, -⟩ | ⟨-, -, rfl, hD, hA⟩)
  · exact absurd hrs (hno r hr)
  · exact absurd hl (by omega)
  · have hE := hidden (And.intro hD hA)
    clear hD hA kF
    go_wp2_with fail
    refine (kW.out _).mono ?_
    rintro ev w3 ⟨rfl, rfl⟩
    go_wp2
    go_ret
    exact ⟨rfl, hE.out⟩
theorem dTurn_ok {s t u : List UInt8} {Q : World -> Prop} (kF : Calls Tryz.prog 233 #[ptr db, .string (mkB s), .string (mkB t)] w fun e w' => e = .returned (.tuple #[.string (mkB u), .nilIface]) /\ Q w') :
    Calls Tryz.prog 184 #[ptr db, .string (mkB s), .string (mkB t)] w fun e w' => e = .returned .nilIface /\ Q w' := by
  replace kF := hidden kF
  have kW := hidden (fun (wx : World) => dwrong_nil (mkB u) wx)
  go_enter Tryz.func184, Tryz.ntmps184
  go_wp2_with fail
  refine (kF.out).mono ?_
  rintro ev w2 ⟨rfl, hQ⟩
  replace hQ := hidden hQ
  go_wp2_with fail
  refine (kW.out _).mono ?_
  rintro ev w3 ⟨rfl, rfl⟩
  go_wp2
  go_ret
  exact ⟨rfl, hQ.out⟩
theorem dTurn_to (h : DL X db L w) (e : EOk X) (m : X.May) {i : Nat} {r : Rec} (hr : L[i]? = some r) (t : List UInt8) (ht : okB t = true) (hno : ∀ q ∈ L, q.s ≠ t) :
    Calls Tryz.prog 184 #[ptr db, .string (mkB r.s), .string (mkB t)] w fun e w' => e = .returned .nilIface /\ DL X db (L.set i ⟨t, r.id⟩) w' /\ Apart [X.E.mb] w w' := by
  refine dTurn_ok (u := r.s) (Q := fun w' => DL X db (L.set i ⟨t, r.id⟩) w' /\ Apart [X.E.mb] w w') ((dturn_any h e m hr t ht).mono ?_)
  rintro ev w' (⟨hst, -⟩ | ⟨-, ⟨q, hq, hqs⟩, -⟩ | ⟨-, -, rfl, hD, hA⟩)
  · exact absurd hst (hno r (List.mem_of_getElem? hr))
  · exact absurd hqs (hno q hq)
  · exact ⟨rfl, hD, hA⟩
theorem dLen_calls (h : DL X db L w) (e : EOk X) :
    Calls Tryz.prog 127 #[ptr db] w fun e w' => e = .returned (.tuple #[.int .i64 (L.length : Nat), .nilIface]) /\ Below w.heap.size w w' := by
  have kR := hidden (h.records e)
  have kW := hidden (fun (wx : World) => dwrong_nil ⟨#[]⟩ wx)
  clear h e
  go_enter Tryz.func127, Tryz.ntmps127
  go_wp2_with fail
  refine (kR.out).mono ?_
  rintro ev w2 ⟨v, rfl, hO, hB⟩
  obtain ⟨la, lc, rfl⟩ := hO.form
  replace hB := hidden hB
  clear hO kR
  go_wp2_with fail
  refine (kW.out _).mono ?_
  rintro ev w3 ⟨rfl, rfl⟩
  go_wp2
  go_ret2
  exact ⟨rfl, hB.out⟩
end
def sortS (l : List (List UInt8)) : List (List UInt8) := l.mergeSort fun x y => decide (x <= y)
theorem sortS_len (l : List (List UInt8)) : (sortS l).length = l.length := List.length_mergeSort _
theorem ssort_calls {base : Nat} {w : World} {v : Value} {l : List (List UInt8)} (h : KeptT base w v l) (hl : l.length <= 1000) :
    Calls Tryz.prog 159 #[v] w fun e w' => e = .returned (.tuple #[]) /\ KeptT base w' v (sortS l) /\ Below base w w' := by
  have hlt : ∀ g, v.ownBlock = some g -> base <= g /\ g < w.heap.size := fun g hg => h.row.lt g hg
  rcases h.row.2 with ⟨rfl, h0⟩ | ⟨g, cap, cur, rfl, h1, hh, h2, h3, h4, h5⟩
  · have hk : l = [] := List.length_eq_zero_iff.1 h0
    subst hk
    refine (AnyM.slices_Sort_string_none Tryz.sortS none 0 w).mono ?_
    rintro e w' ⟨rfl, rfl⟩
    have e0 : sortS [] = [] := by simp [sortS]
    rw [e0]
    exact ⟨rfl, KeptT.nil _ _, Below.refl _ _⟩
  · rw [Nat.mul_one] at h4 h5
    have hg := (hlt g rfl).2
    refine (AnyM.slices_Sort_string Tryz.sortS g 0 cap l w (holds_of_block hh h5) hg (by omega)).mono ?_
    rintro e w' ⟨rfl, n, os, rfl⟩
    have hsl : (l.mergeSort fun x y => decide (x <= y)).length = l.length := List.length_mergeSort _
    have hgr : w.grownBy (grow (putRow encStr (Sort.ahead w n) g 0 (l.mergeSort fun x y => decide (x <= y)).toArray) os) (some g) := grownBy_sorted _
    refine ⟨rfl, ⟨?_⟩, ?_⟩
    · have := ownsRow_sorted (n := n) (os := os) hsl h1 hh h2 h3 (by rw [Nat.mul_one]; exact h4)
      unfold sortS
      rw [hsl]
      exact this
    · refine ⟨hgr.os, hgr.tape, hgr.output, hgr.size, fun k hk => hgr.block k ?_ ?_⟩
      · exact Nat.lt_of_lt_of_le hk (Nat.le_of_lt (Nat.lt_of_le_of_lt h1 hg))
      · intro e
        cases e
        omega
section
variable {X : DX} {db : Nat} {b : List Int} {L : List Rec} {w w' : World}
theorem KeptT.mono {base base' : Nat} {w : World} {v : Value} {l : List (List UInt8)} (h : KeptT base w v l) (hb : base' <= base) : KeptT base' w v l := ⟨⟨h.row.1, by
  rcases h.row.2 with h2 | ⟨g', cap', cur, hv, h1, rest⟩
  · exact .inl h2
  · exact .inr ⟨g', cap', cur, hv, Nat.le_trans hb h1, rest⟩⟩⟩
theorem KeptT.form {base : Nat} {w : World} {v : Value} {l : List (List UInt8)} (h : KeptT base w v l) : ∃ a cap, v = .slice a l.length cap := by
  obtain ⟨a, cap, hv, -⟩ := h.at
  exact ⟨a, cap, hv⟩
theorem dList_calls (h : DB X db b w) (e : EOk X) (hp : parseB b = some L) (hL : L.length <= 200) :
    Calls Tryz.prog 102 #[ptr db] w fun e w' => ∃ v, e = .returned (.tuple #[v, .nilIface]) /\ KeptT w.heap.size w' v (sortS (L.map Rec.s)) /\ Below w.heap.size w w' := by
  have kR := hidden (records_calls h e)
  clear h e
  go_enter Tryz.func102, Tryz.ntmps102
  go_wp2_with fail
  refine (kR.out).mono ?_
  rintro ev w2 ⟨⟨L', v, hp', rfl, hO⟩ | ⟨hp', rfl⟩, hB⟩
  · rw [hp] at hp'
    cases hp'
    obtain ⟨la, lc, rfl, hcs⟩ := hO.at
    replace hcs := hidden hcs
    have hs2 := hB.size
    replace hB := hidden hB
    clear hO kR hp
    go_wp2_with fail
    go_loopg [6, 20] (L.length + 1) (fun gk l q wr => ∃ k : Nat, k <= L.length /\ gk = L.length + 1 - k /\ q = .int .i64 k /\ Hid (KeptT w2.heap.size wr l ((L.map Rec.s).take k) /\ Below w2.heap.size w2 wr))
    case atStart => exact ⟨0, by omega, rfl, rfl, hidden ⟨KeptT.nil _ _, Below.refl _ _⟩⟩
    case round =>
      obtain ⟨k, hk, hgk, rfl, hI⟩ := hrel
      replace hgk := hidden hgk
      obtain ⟨i1, i2⟩ := hI.out
      have hlk : ((L.map Rec.s).take k).length = k := by rw [List.length_take, List.length_map]; omega
      obtain ⟨na, nc, hv⟩ := i1.form
      rw [hlk] at hv
      subst hv
      replace hlk := hidden hlk
      by_cases hlt : k < L.length
      · obtain ⟨bb, off, rfl, hbb, hcell⟩ := hcs.out (by rintro rfl; simp at hlt)
        obtain ⟨r, hr⟩ : ∃ r, L[k]? = some r := ⟨_, List.getElem?_eq_getElem hlt⟩
        obtain ⟨c0, c1⟩ := hcell k r hr
        replace c0 := (i2.cell (p := ⟨bb, off + k * 2, none⟩) hbb).trans c0
        replace c1 := (i2.cell (p := ⟨bb, off + k * 2 + 1, none⟩) hbb).trans c1
        obtain ⟨w3, hw3, hB3, hR3⟩ : ∃ w3, wr.alloc (.cells #[.string (mkB r.s), .int .i64 (r.id : Nat)] 209) = w3 /\ Below wr.heap.size wr w3 /\ RrAt w3 wr.heap.size (mkB r.s) (r.id : Nat) := ⟨_, rfl, (Below.refl _ _).alloc (Nat.le_refl _) _, ⟨by simp, by simp, by simp⟩⟩
        have r0 := hR3.c0
        obtain ⟨w4, hw4, hB4, hc4⟩ : ∃ w4, w3.alloc (.cells #[.string (mkB r.s)] 9) = w4 /\ Below w3.heap.size w3 w4 /\ w4.cell? ⟨w3.heap.size, 0, none⟩ = some (.string (mkB r.s)) := ⟨_, rfl, (Below.refl _ _).alloc (Nat.le_refl _) _, by simp⟩
        have hb4 := (i2.trans (hB3.mono i2.size)).trans (hB4.mono (Nat.le_trans i2.size hB3.size))
        obtain ⟨v5, w5, hrun, hK5, hB5⟩ := keptT_append ((i1.below hB3).below hB4) ⟨w3.heap.size, 0, none⟩ 1 r.s hc4 (by rw [hlk.out]; omega) hb4.size 50
        have hstep : (L.map Rec.s).take k ++ [r.s] = (L.map Rec.s).take (k + 1) := by
          rw [List.take_add_one, List.getElem?_map, hr]
          rfl
        rw [hstep] at hK5
        obtain ⟨a5, c5, rfl⟩ := hK5.form
        have hE := hidden (And.intro hK5 (hb4.trans hB5))
        have hlk5 : ((L.map Rec.s).take (k + 1)).length = k + 1 := by rw [List.length_take, List.length_map]; omega
        rw [hlk5] at hE hrun
        replace hrun := hidden hrun
        have hkL : (k : Int) < (L.length : Int) := by omega
        replace hw3 := hidden hw3
        replace hw4 := hidden hw4
        clear i1 i2 hI hcell hR3 hB3 hB4 hc4 hb4 hK5 hB5 hstep hlk5
        go_upto_region 8 with fail
        rw [hw3.out]
        clear hw3
        replace hw4 := hw4.out
        go_wp2_with (at_builtin; refine wpList_append_eq _ _ 50 rfl _ _ _ w5 rfl rfl hrun.out rfl ?_)
        go_roundg (L.length + 1 - (k + 1))
        case measure => rw [hgk.out]; omega
        case rel => exact ⟨k + 1, hlt, rfl, by go_num, hidden hE.out⟩
      · obtain rfl : k = L.length := by omega
        have ht : (L.map Rec.s).take L.length = L.map Rec.s := List.take_of_length_le (by rw [List.length_map]; omega)
        rw [ht] at i1
        have kS := hidden (ssort_calls i1 (by rw [List.length_map]; omega))
        have hE := hidden i2
        clear i1 i2 hI
        go_wp2_with fail
        refine (kS.out).mono ?_
        rintro ev w3 ⟨rfl, hK, hB3⟩
        have hF := hidden (And.intro (hK.mono hs2) (hB.out.trans ((hE.out.trans hB3).mono hs2)))
        clear hK hB3 kS
        go_wp2
        go_ret2
        exact ⟨_, rfl, hF.out⟩
  · rw [hp] at hp'
    cases hp'
end
section
variable {E : TE} {K : Nat -> Nat} {D : Nat -> List Int} {f u lim : Nat} {w w' : World}
theorem S8.kind (ok : E.Ok) (h : S8 E K D f u lim w) {id : Nat} (h1 : 1 <= id) (h2 : id <= E.tn) :
    Calls Tryz.prog 117 #[ptr E.tb, .int .i64 id] w fun e w' => e = .returned (.tuple #[.int .i64 (K id : Nat), .nilIface]) /\ Below w.heap.size w w' := by
  obtain ⟨mem, wr, M, N, q1, q2, q3, q4, q5, q6, q7⟩ := h
  have := Ino.kind q1 ok q2 h1 h2
  rw [q5] at this
  exact this
theorem of_ok (ok : E.Ok) (h : S8 E K D f u lim w) {id : Nat} (h1 : 1 <= id) (h2 : id <= E.tn) (hk : K id = 2) :
    Calls Tryz.prog 101 #[ptr E.tb, .int .i64 id] w fun e w' => ∃ db, e = .returned (.tuple #[ptr db, .nilIface]) /\ w.heap.size <= db /\ w'.cell? ⟨db, 0, none⟩ = some (ptr E.tb) /\ w'.cell? ⟨db, 1, none⟩ = some (.int .i64 id) /\ Below w.heap.size w w' := by
  have htn := ok.tn
  have hi : i64 (id : Int) := ⟨by omega, by omega⟩
  have kI := hidden (itoa_below (id : Int) hi h.ground (Below.refl _ _))
  have kK := hidden (fun (wx : World) (hx : Below w.heap.size w wx) => S8.kind ok (h.more hx) h1 h2)
  rw [hk] at kK
  replace hi := hidden hi
  generalize itoaB (id : Int) = nm at kI
  clear h ok
  go_enter Tryz.func101, Tryz.ntmps101
  go_wp2_with fail
  refine (kI.out).mono ?_
  rintro ev w1 ⟨rfl, hB⟩
  have kK1 := hidden (kK.out _ hB)
  replace hB := hidden hB
  go_wp2_with fail
  refine (kK1.out).mono ?_
  rintro ev w2 ⟨rfl, hB2⟩
  have hE := hidden (hB.out.trans (hB2.mono hB.out.size))
  clear hB2 kK1 kK kI
  go_wp2
  go_ret2
  exact ⟨_, rfl, hE.out.size, by simp, by simp, hE.out.alloc hE.out.size _⟩
theorem of_kind (ok : E.Ok) (h : S8 E K D f u lim w) {id : Nat} (h1 : 1 <= id) (h2 : id <= E.tn) (hk : K id ≠ 2) :
    Calls Tryz.prog 101 #[ptr E.tb, .int .i64 id] w fun e w' => ∃ b, e = .returned (.tuple #[.pointer none, flt b]) /\ Chain w' [(sDir, itoaB id)] (num 14) (flt b) /\ Below w.heap.size w w' := by
  have htn := ok.tn
  have hi : i64 (id : Int) := ⟨by omega, by omega⟩
  have kI := hidden (itoa_below (id : Int) hi h.ground (Below.refl _ _))
  have kK := hidden (fun (wx : World) (hx : Below w.heap.size w wx) => S8.kind ok (h.more hx) h1 h2)
  have hk' : ¬ ((K id : Nat) : Int) = 2 := by omega
  replace hi := hidden hi
  generalize itoaB (id : Int) = nm at *
  have kW := hidden (fun (wx : World) => dwrong_num nm 14 wx)
  clear h ok
  generalize ((K id : Nat) : Int) = KK at *
  go_enter Tryz.func101, Tryz.ntmps101
  go_wp2_with fail
  refine (kI.out).mono ?_
  rintro ev w1 ⟨rfl, hB⟩
  have kK1 := hidden (kK.out _ hB)
  replace hB := hidden hB
  go_wp2_with fail
  refine (kK1.out).mono ?_
  rintro ev w2 ⟨rfl, hB2⟩
  have hE := hidden (hB.out.trans (hB2.mono hB.out.size))
  clear hB2 kK1 kK kI
  go_wp2_with fail
  refine (kW.out _).mono ?_
  rintro ev w3 ⟨bk, rfl, hc, hB3⟩
  have hF := hidden (And.intro hc (hE.out.trans (hB3.mono hE.out.size)))
  clear hc hB3
  go_wp2
  go_ret2
  exact ⟨bk, rfl, hF.out⟩
end
end Go.Proofs.YtpofmiecjkghgaaGreatDoor
