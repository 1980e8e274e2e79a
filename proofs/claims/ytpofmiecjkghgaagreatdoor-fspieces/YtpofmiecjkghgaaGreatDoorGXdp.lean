/- A name in a directory, whether something has it or not: spot; fits; enter in one directory. -/
import Derived.Test.YtpofmiecjkghgaaGreatDoorGXap
import Derived.Test.YtpofmiecjkghgaaGreatDoorGWcp
import Derived.Test.YtpofmiecjkghgaaGreatDoorGWap
namespace Go.Proofs.YtpofmiecjkghgaaGreatDoor
open Go.RowKit Go.Extern.Stop Go.Stop Go.Extern Go.Maps Go.Sort Go.Shelf
set_option maxRecDepth 100000
set_option maxHeartbeats 8000000
abbrev spV (u : Value) (s : ByteArray) (d : Value) : Value := .agg #[u, .string s, d]
structure SpAt (w : World) (b : Nat) (u : Value) (s : ByteArray) (d : Value) : Prop where
  c0 : w.cell? ⟨b, 0, none⟩ = some u
  c1 : w.cell? ⟨b, 1, none⟩ = some (.string s)
  c2 : w.cell? ⟨b, 2, none⟩ = some d
  f0 : w.frozen? ⟨b, 0, none⟩ = false
  f1 : w.frozen? ⟨b, 1, none⟩ = false
  f2 : w.frozen? ⟨b, 2, none⟩ = false
  c3 : ∀ j, 3 <= j -> w.cell? ⟨b, j, none⟩ = none
theorem sp_new (w : World) (u : Value) (s : ByteArray) (d : Value) : SpAt (w.alloc (Obj.cells #[u, .string s, d] 166)) w.heap.size u s d := ⟨by simp, by simp, by simp, by simp, by simp, by simp, fun j hj => by simp; omega⟩
section
variable {w w' : World} {b : Nat} {u d : Value} {s : ByteArray}
theorem SpAt.lt (h : SpAt w b u s d) : b < w.heap.size := lt_of_cell (a := ⟨b, 0, none⟩) h.c0
theorem SpAt.keep {bs : List Nat} (h : SpAt w b u s d) (ha : Apart bs w w') (hn : b ∉ bs) : SpAt w' b u s d :=
  have k : ∀ j, w'.cell? ⟨b, j, none⟩ = w.cell? ⟨b, j, none⟩ := fun j => ha.cell (p := ⟨b, j, none⟩) h.lt hn
  have z : ∀ j, w'.frozen? ⟨b, j, none⟩ = w.frozen? ⟨b, j, none⟩ := fun j => ha.frozen (p := ⟨b, j, none⟩) h.lt hn
  ⟨(k 0).trans h.c0, (k 1).trans h.c1, (k 2).trans h.c2, (z 0).trans h.f0, (z 1).trans h.f1, (z 2).trans h.f2, fun j hj => (k j).trans (h.c3 j hj)⟩
theorem SpAt.below (h : SpAt w b u s d) (hb : Below w.heap.size w w') : SpAt w' b u s d := h.keep (Apart.of_below (bs := []) hb) (by simp)
theorem load_spot {ua : Option Addr} {n c : Nat} {dp : Option Addr} (h : SpAt w b (.slice ua n c) s (.pointer dp)) : (loadVar 166 ⟨b, 0, none⟩).run Tryz.prog w = .ok (spV (.slice ua n c) s (.pointer dp)) w := by
  have c0 := h.c0
  have c1 := h.c1
  have c2 := h.c2
  clear h
  go_simp
theorem sp_stored {u' d' : Value} {s' : ByteArray} (h : SpAt w b u s d) : SpAt (((w.setCell ⟨b, 0, none⟩ u').setCell ⟨b, 1, none⟩ (.string s')).setCell ⟨b, 2, none⟩ d') b u' s' d' := by
  have e1 : (w.setCell ⟨b, 0, none⟩ u').cell? ⟨b, 1, none⟩ = some (.string s) := (World.cell?_setCell_other _ _ _ _ (by simp)).trans h.c1
  have e2 : ((w.setCell ⟨b, 0, none⟩ u').setCell ⟨b, 1, none⟩ (.string s')).cell? ⟨b, 2, none⟩ = some d := (World.cell?_setCell_other _ _ _ _ (by simp)).trans ((World.cell?_setCell_other _ _ _ _ (by simp)).trans h.c2)
  refine ⟨?_, ?_, World.cell?_setCell_same' _ _ _ (by rw [e2]; rfl), by simpa using h.f0, by simpa using h.f1, by simpa using h.f2, fun j hj => ?_⟩
  · exact (World.cell?_setCell_other _ _ _ _ (by simp)).trans ((World.cell?_setCell_other _ _ _ _ (by simp)).trans (World.cell?_setCell_same' _ _ _ (by rw [h.c0]; rfl)))
  · exact (World.cell?_setCell_other _ _ _ _ (by simp)).trans (World.cell?_setCell_same' _ _ _ (by rw [e1]; rfl))
  · exact (World.cell?_setCell_other _ _ _ _ (by simp <;> omega)).trans ((World.cell?_setCell_other _ _ _ _ (by simp <;> omega)).trans ((World.cell?_setCell_other _ _ _ _ (by simp <;> omega)).trans (h.c3 j hj)))
theorem txts_sp {ua : Option Addr} {n c : Nat} {dp : Option Addr} (h : SpAt w b (.slice ua n c) ⟨#[]⟩ (.pointer dp)) {v : Value} {l : List (List UInt8)} (hv : TxtsAt w v l) (hl : ∀ x ∈ l, x ≠ []) (ha : Apart [b] w w') : TxtsAt w' v l := by
  obtain ⟨a', c', hv', hlc', hcs'⟩ := hv
  refine ⟨a', c', hv', hlc', fun hne => ?_⟩
  obtain ⟨b', off', ha', hb', hx'⟩ := hcs' hne
  refine ⟨b', off', ha', Nat.lt_of_lt_of_le hb' ha.size, fun k x hk => (ha.cell (p := ⟨b', off' + k, none⟩) hb' (fun hm => ?_)).trans (hx' k x hk)⟩
  have hbb : b' = b := List.mem_singleton.1 hm
  have hcell := hx' k x hk
  have hxne := hl x (List.mem_of_getElem? hk)
  rw [hbb] at hcell
  rcases Nat.lt_or_ge (off' + k) 3 with h3 | h3
  · obtain e | e | e : off' + k = 0 \/ off' + k = 1 \/ off' + k = 2 := by omega
    · rw [e, h.c0] at hcell; cases hcell
    · rw [e, h.c1] at hcell
      have hm' : mkB [] = mkB x := by
        have := Option.some.inj hcell
        exact (Value.string.inj this)
      exact hxne (mk_inj hm').symm
    · rw [e, h.c2] at hcell; cases hcell
  · rw [h.c3 _ h3] at hcell; cases hcell
theorem sp_apart (w : World) (b : Nat) (x y z : Value) : Apart [b] w (((w.setCell ⟨b, 0, none⟩ x).setCell ⟨b, 1, none⟩ y).setCell ⟨b, 2, none⟩ z) := (((Apart.refl [b] w).setCell (p := ⟨b, 0, none⟩) (by simp) x).setCell (p := ⟨b, 1, none⟩) (by simp) y).setCell (p := ⟨b, 2, none⟩) (by simp) z
theorem ret_spot {fn : Func} {p t : Tmp} (h : fn.results = #[.cell p 166, .tmp t]) {tmps : Array Value} {ua : Option Addr} {n c : Nat} {dp : Option Addr} (hp : tmps.getD p undef = ptr b) (hn : SpAt w b (.slice ua n c) s (.pointer dp)) :
    (results fn tmps).run Tryz.prog w = .ok (.tuple #[spV (.slice ua n c) s (.pointer dp), tmps.getD t undef]) w := by
  rw [results_cell_tmp h, hp]
  simp [asAddr, Result.andThen, load_spot hn]
end
section
variable {fb rs hb : Nat} {E : TE} {w w' : World} {K : Nat -> Nat} {D : Nat -> List Int} {T : Nat -> List Rec} {f u lim : Nat}
theorem fspot_calls (hF : FsAt fb E rs hb w) (h : S8 E K D f u lim w) (ok : E.Ok) (ht : TreeOk E.tn K D T) (htn : 1 <= E.tn) {path s : List UInt8} {l : List (List UInt8)} (hlen : path.length <= 2000) (hp : splitB path = some (l ++ [s])) :
    Calls Tryz.prog 133 #[ptr fb, .string (mkB path)] w fun e w' => ((∃ p v db, dirT K T l = .ok p /\ e = .returned (.tuple #[spV v (mkB s) (ptr db), .nilIface]) /\ TxtsAt w' v l /\ DirAt E db p w' /\ w.heap.size <= db /\ 1 <= p /\ p <= E.tn /\ K p = 2) \/ (∃ m b nm, dirT K T l = .error m /\ (m = 11 \/ m = 14) /\ e = .returned (.tuple #[spV (.slice none 0 0) ⟨#[]⟩ (.pointer none), flt b]) /\ Chain w' [(sDir, nm)] (num m) (flt b))) /\ Below w.heap.size w w' := by
  have hmp := may_all (split_may hp)
  have hl6 : l.length <= 6 := by have := hmp.1; rw [List.length_append] at this; omega
  have hlok : ∀ x ∈ l, okB x = true := fun x hx => hmp.2 x (List.mem_append.2 (Or.inl hx))
  obtain ⟨w1, hw1, hB1, hN1⟩ : ∃ w1, w.alloc (Obj.cells #[.slice none 0 0, .string ⟨#[]⟩, .pointer none] 166) = w1 /\ Below w.heap.size w w1 /\ SpAt w1 w.heap.size (.slice none 0 0) ⟨#[]⟩ (.pointer none) := ⟨_, rfl, (Below.refl _ _).alloc (Nat.le_refl _) _, sp_new _ _ _ _⟩
  have kA := hidden (apart_ok path hlen hp 1 w1)
  have kD := hidden (fun (wx : World) (hx : Below w.heap.size w wx) (v : Value) (hv : TxtsAt wx v l) => dirAt_calls (hF.below hx) (h.more hx) ok ht htn hv (by omega) hlok)
  have hBN := hidden (And.intro hB1 hN1)
  have hlne : ∀ x ∈ l, x ≠ [] := fun x hx => ok_ne (hlok x hx)
  clear hF h ok ht hB1 hN1 hmp hlok
  go_enter Tryz.func133, Tryz.ntmps133
  go_wp2_with fail
  refine (kA.out).mono ?_
  rintro ev w2 ⟨uv, rfl, hT2, hB2⟩
  have hb2 : Below w.heap.size w w2 := hBN.out.1.trans (hB2.mono hBN.out.1.size)
  have kD2 := hidden (kD.out w2 hb2 uv hT2)
  have hN2 := hidden (hBN.out.2.below hB2)
  have hT2' := hidden hT2
  obtain ⟨ua, uc, rfl, -⟩ := hT2
  replace hb2 := hidden hb2
  clear kA hB2 kD
  generalize l.length = LL at *
  go_wp2_with fail
  refine (kD2.out).mono ?_
  rintro ev w3 ⟨(⟨q, db, hq, rfl, hD3, hdb, q1, q2, q3⟩ | ⟨m, bk, nm, hq, hm, rfl, hc⟩), hB3⟩
  · have hN3 := hN2.out.below hB3
    have c0 := hN3.c0
    have c1 := hN3.c1
    have c2 := hN3.c2
    have f0 := hN3.f0
    have f1 := hN3.f1
    have f2 := hN3.f2
    have hlt := hN3.lt
    have hb3 := hb2.out.trans (hB3.mono hb2.out.size)
    have hA := sp_apart w3 w.heap.size (.slice ua LL uc) (.string (mkB s)) (ptr db)
    have hE := hidden (And.intro (sp_stored (u' := .slice ua LL uc) (s' := mkB s) (d' := ptr db) hN3) (And.intro (txts_sp hN3 (hT2'.out.below hB3) hlne hA) (And.intro hD3 (And.intro hb3 hA))))
    have hrest := hidden (And.intro hq (And.intro (show w.heap.size < db from by have := hBN.out.1.size; have := hBN.out.2.lt; have := hN2.out.lt; omega) (And.intro q1 (And.intro q2 q3))))
    clear hN3 hD3 hb3 hA hB3 kD2 hq hdb q1 q2 q3 hT2' hN2 hb2
    go_wp2
    (try simp only [Exit.inBlock, Exit.then])
    obtain ⟨e1, e2, e3, e4, e5⟩ := hE.out
    obtain ⟨r1, r2, r3, r4, r5⟩ := hrest.out
    exact bodyPost_ret (ret_spot rfl rfl e1) rfl ⟨Or.inl ⟨q, _, db, r1, rfl, e2, e3.keep e5 (by simp; omega), by omega, r3, r4, r5⟩, e4.trans (e5.below (by simp) e4.size)⟩
  · have hN3 := hN2.out.below hB3
    have c0 := hN3.c0
    have c1 := hN3.c1
    have c2 := hN3.c2
    have f0 := hN3.f0
    have f1 := hN3.f1
    have f2 := hN3.f2
    have hlt := hN3.lt
    have hb3 := hb2.out.trans (hB3.mono hb2.out.size)
    have hA := sp_apart w3 w.heap.size (.slice none 0 0) (.string ⟨#[]⟩) (.pointer none)
    have hE := hidden (And.intro (sp_stored (u' := .slice none 0 0) (s' := ⟨#[]⟩) (d' := .pointer none) hN3) (And.intro hc (And.intro hb3 hA)))
    have hrest := hidden (And.intro hq (And.intro hm hN3))
    clear hN3 hb3 hA hB3 kD2 hq hm hc hT2' hN2 hb2
    go_wp2
    (try simp only [Exit.inBlock, Exit.then])
    obtain ⟨e1, e2, e4, e5⟩ := hE.out
    obtain ⟨r1, r2, r3⟩ := hrest.out
    exact bodyPost_ret (ret_spot rfl rfl e1) rfl ⟨Or.inr ⟨m, bk, nm, r1, r2, rfl, Chain.apart e5 (fun b hb' s => by rw [List.mem_singleton.1 hb', r3.c0]; exact fun e => by cases e) _ _ _ e2⟩, e4.trans (e5.below (by simp) e4.size)⟩
theorem fits_ok (hF : FsAt fb E rs hb w) (h : S8 E K D f u lim w) (ok : E.Ok) (ht : TreeOk E.tn K D T) {x : Nat} (x1 : 1 <= x) (x2 : x <= E.tn) {lv : List (List Nat)} (hlv : LvOk K T E.tn x lv) {path : List UInt8} {l : List (List UInt8)} (hlen : path.length <= 2000) (hp : splitB path = some l) (hfit : l.length + lv.length <= 7) :
    Calls Tryz.prog 135 #[ptr fb, fnV (x : Nat) (K x : Nat), .string (mkB path)] w fun e w' => e = .returned .nilIface /\ Below w.heap.size w w' := by
  obtain ⟨w1, hw1, hB1, hN1⟩ : ∃ w1, w.alloc (.cells #[.int .i64 (x : Nat), .int .i64 (K x : Nat)] 105) = w1 /\ Below w.heap.size w w1 /\ FnAt w1 w.heap.size (x : Nat) (K x : Nat) := ⟨_, rfl, (Below.refl _ _).alloc (Nat.le_refl _) _, fn_new _ _ _⟩
  have kS := split_calls path w1 hlen
  unfold ToldS at kS
  rw [hp] at kS
  replace kS := hidden kS
  have kL := hidden (fun (wx : World) (hx : Below w.heap.size w wx) => levels_calls (hF.below hx) (h.more hx) ok ht x1 x2 hlv)
  have hBN := hidden (And.intro hB1 hN1)
  have hl1 : 1 <= lv.length := by
    have := hlv.first
    rcases Nat.lt_or_ge 0 lv.length with h | h
    · exact h
    · rw [List.getElem?_eq_none h] at this; cases this
  clear hF h ok ht hB1 hN1 hlv
  generalize hKX : ((K x : Nat) : Int) = KX at *
  replace hKX := hidden hKX
  go_enter Tryz.func135, Tryz.ntmps135
  go_wp2_with fail
  refine (kS.out).mono ?_
  rintro ev w2 ⟨v, rfl, hT, hB2⟩
  have hT' : TxtsAt w2 v l := hT
  obtain ⟨la, lc, rfl, -⟩ := hT'
  have hb2 : Below w.heap.size w w2 := hBN.out.1.trans (hB2.mono hBN.out.1.size)
  have hN2 := hBN.out.2.below hB2
  have n0 := hN2.c0
  have n1 := hN2.c1
  have hltn := hN2.lt
  have kL2 := hidden (kL.out w2 hb2)
  replace hb2 := hidden hb2
  clear hT hB2 kS hN2 kL
  dsimp only [Option.isSome]
  generalize hLL : l.length = LL at *
  go_wp2_with fail
  refine (kL2.out).mono ?_
  rintro ev w3 ⟨v3, rfl, hL3, hB3⟩
  obtain ⟨va, vc, rfl, -⟩ := hL3.form
  have hE := hidden (hb2.out.trans (hB3.mono hb2.out.size))
  clear hL3 hB3 kL2 hb2
  generalize hLV : lv.length = LV at *
  have hgt : ¬ (6 : Int) < (LL : Int) + (LV : Int) - 1 := by omega
  go_wp2
  go_ret
  exact ⟨rfl, hE.out⟩
end
section
variable {fb rs hb : Nat} {E : TE} {w w' : World} {K : Nat -> Nat} {D : Nat -> List Int} {T : Nat -> List Rec} {f u lim : Nat}
theorem DL.same {p db n : Nat} {L : List Rec} (h : DL (dx E p K D n f u lim) db L w) (hn : L.length = n) : S8 E K (upd D p (recsL L)) f u lim w := by
  obtain ⟨f', u', h1, h2, h3⟩ := h.s8
  rw [hn] at h2 h3
  have e : f' = f := by omega
  have := h3 (Nat.le_refl _)
  rw [e] at h1
  exact h1.low (by omega)
theorem enter_same (h : S8 E K D f u lim w) (ok : E.Ok) {p db : Nat} {L : List Rec} (p1 : 1 <= p) (p2 : p <= E.tn) (hk : K p = 2) (hD : D p = recsL L) (hg : GoodL L) (hdir : DirAt E db p w) {v v2 : Value} {dp : Option Addr} {l : List (List UInt8)} (hv : TxtsAt w v l) (hv2 : TxtsAt w v2 l) (hl : l.length <= 6) {i : Nat} {r : Rec} (hr : L[i]? = some r) (t : List UInt8) (ht : okB t = true) (hno : ∀ q ∈ L, q.s ≠ t) (hR : E.R p) (hW : E.W p) (x k : Int) :
    Calls Tryz.prog 136 #[ptr fb, fnV x k, spV v (mkB r.s) (ptr db), spV v2 (mkB t) (.pointer dp)] w fun e w' => e = .returned .nilIface /\ S8 E K (upd D p (recsL (L.set i ⟨t, r.id⟩))) f u lim w' /\ Apart [E.mb] w w' := by
  have hvh := hidden hv
  have hv2h := hidden hv2
  obtain ⟨va, vc, rfl, -⟩ := hv
  obtain ⟨v2a, v2c, rfl, -⟩ := hv2
  obtain ⟨w1, hw1, hB1⟩ : ∃ w1, w.alloc (.cells #[.int .i64 x, .int .i64 k] 105) = w1 /\ Below w.heap.size w w1 := ⟨_, rfl, (Below.refl _ _).alloc (Nat.le_refl _) _⟩
  obtain ⟨w2, hw2, hB2, hS2⟩ : ∃ w2, w1.alloc (.cells #[.slice va l.length vc, .string (mkB r.s), ptr db] 166) = w2 /\ Below w1.heap.size w1 w2 /\ SpAt w2 w1.heap.size (.slice va l.length vc) (mkB r.s) (ptr db) := ⟨_, rfl, (Below.refl _ _).alloc (Nat.le_refl _) _, sp_new _ _ _ _⟩
  obtain ⟨w3, hw3, hB3, hS3⟩ : ∃ w3, w2.alloc (.cells #[.slice v2a l.length v2c, .string (mkB t), .pointer dp] 166) = w3 /\ Below w2.heap.size w2 w3 /\ SpAt w3 w2.heap.size (.slice v2a l.length v2c) (mkB t) (.pointer dp) := ⟨_, rfl, (Below.refl _ _).alloc (Nat.le_refl _) _, sp_new _ _ _ _⟩
  have hb3 : Below w.heap.size w w3 := (hB1.trans (hB2.mono hB1.size)).trans (hB3.mono (Nat.le_trans hB1.size hB2.size))
  have hS2' := hS2.below hB3
  have a0 := hS2'.c0
  have a1 := hS2'.c1
  have a2 := hS2'.c2
  have b0 := hS3.c0
  have b1 := hS3.c1
  have la := hS2'.lt
  have lb := hS3.lt
  have kE := hidden (equalT_calls _ _ _ _ w3 (hvh.out.below hb3) (hv2h.out.below hb3) (by omega) (by omega))
  rw [show decide (l = l) = true by simp] at kE
  have kT := hidden (fun (wx : World) (hx : Below w3.heap.size w3 wx) => dTurn_to ((h.more (hb3.trans (hx.mono hb3.size))).dl hD hg (hdir.below (hb3.trans (hx.mono hb3.size)))) (eok ok p1 p2 hk _) ⟨hR, hW⟩ hr t ht hno)
  have kS2 := hidden (fun (wx : World) (hx : Below w3.heap.size w3 wx) => hS2'.below hx)
  have kS3 := hidden (fun (wx : World) (hx : Below w3.heap.size w3 wx) => hS3.below hx)
  have hb3' := hidden hb3
  clear h ok hdir hg hno hR hW hB1 hB2 hB3 hS2 hS3 hS2' hb3 hvh hv2h hD
  generalize hb6 : w1.heap.size = b6 at *
  generalize hb7 : w2.heap.size = b7 at *
  generalize l.length = LL at *
  have hw1' := hidden hw1
  have hw2' := hidden hw2
  have hw3' := hidden hw3
  go_enter Tryz.func136, Tryz.ntmps136
  go_wp2_with fail
  refine (kE.out).mono ?_
  rintro ev w4 ⟨rfl, hB4⟩
  have hS4 := kS2.out w4 hB4
  have hS5 := kS3.out w4 hB4
  have c1 := hS4.c1
  have c2 := hS4.c2
  have d1 := hS5.c1
  have l4 := hS4.lt
  have l5 := hS5.lt
  have kT4 := hidden (kT.out w4 hB4)
  replace hB4 := hidden hB4
  clear hS4 hS5 kE kT kS2 kS3 hw1 hw2 hw3
  go_wp2_with fail
  refine (kT4.out).mono ?_
  rintro ev w5 ⟨rfl, hDL, hA⟩
  have hE := hidden (And.intro (hDL.same (by rw [List.length_set])) (show Apart [E.mb] w w5 from (Apart.of_below (hb3'.out.trans (hB4.out.mono hb3'.out.size))).trans hA))
  clear hDL hA kT4
  go_wp2
  go_ret
  exact ⟨rfl, hE.out⟩
end
theorem setCell_self {w : World} {b o : Nat} {v : Value} (h : w.cell? ⟨b, o, none⟩ = some v) : w.setCell ⟨b, o, none⟩ v = w := by
  unfold World.cell? at h
  have hh : w.heap.modify b (fun
      | .cells c elem frozen => .cells (c.setIfInBounds o v) elem frozen
      | ob => ob) = w.heap := by
    apply Array.ext_getElem?
    intro i
    rw [Array.getElem?_modify]
    by_cases hi : b = i
    · subst hi
      rw [if_pos rfl]
      cases hb : w.heap[b]? with
      | none => rfl
      | some ob =>
        cases ob with
        | cells c elem frozen =>
          simp [hb] at h
          have : c.setIfInBounds o v = c := by
            apply Array.ext_getElem?
            intro j
            rw [Array.getElem?_setIfInBounds]
            by_cases hj : o = j
            · subst hj
              rw [if_pos rfl]
              obtain ⟨hlt, -⟩ := Array.getElem?_eq_some_iff.1 h
              rw [if_pos hlt, h]
            · rw [if_neg hj]
          simp [this]
        | _ => rfl
    · rw [if_neg hi]
  unfold World.setCell
  simp only [Option.isSome_none, Bool.false_eq_true, if_false]
  exact congrArg (fun hp => ({ w with heap := hp } : World)) hh
section
variable {fb rs hb : Nat} {E : TE} {w w' : World} {K : Nat -> Nat} {D : Nat -> List Int} {T : Nat -> List Rec} {f u lim : Nat}
structure TurnsT (K : Nat -> Nat) (T : Nat -> List Rec) (tn : Nat) (a b : List UInt8) (l : List (List UInt8)) (s t : List UInt8) (p i : Nat) (r : Rec) (lv : List (List Nat)) : Prop where
  la : a.length <= 2000
  lb : b.length <= 2000
  pa : splitB a = some (l ++ [s])
  pb : splitB b = some (l ++ [t])
  ne : a ≠ b
  out : withinB b a = false
  dir : dirT K T l = .ok p
  at_ : (T p)[i]? = some r
  name : r.s = s
  look : lookT (T p) s = some r
  no : lookT (T p) t = none
  lvok : LvOk K T tn r.id lv
  fit : l.length + 1 + lv.length <= 7
theorem move_turn (hF : FsAt fb E rs hb w) (h : S8 E K D f u lim w) (ok : E.Ok) (ht : TreeOk E.tn K D T) (htn : 1 <= E.tn) {a b s t : List UInt8} {l : List (List UInt8)} {p i : Nat} {r : Rec} {lv : List (List Nat)} (m : TurnsT K T E.tn a b l s t p i r lv) (hR : E.R p) (hW : E.W p) :
    Calls Tryz.prog 75 #[ptr fb, .string (mkB a), .string (mkB b)] w fun e w' => e = .returned (.tuple #[fnV 0 0, .nilIface]) /\ S8 E K (upd D p (recsL ((T p).set i ⟨t, r.id⟩))) f u lim w' /\ Apart [E.mb] w w' := by
  have hmp := may_all (split_may m.pb)
  have hl6 : l.length <= 6 := by have := hmp.1; rw [List.length_append] at this; omega
  have htok : okB t = true := hmp.2 t (by simp)
  have hsok : okB s = true := (may_all (split_may m.pa)).2 s (by simp)
  have hdin : 1 <= p /\ p <= E.tn /\ K p = 2 := by
    have hd := m.dir
    unfold dirT at hd
    cases hw : walkT K T 1 l with
    | error z => rw [hw] at hd; cases hd
    | ok q =>
      rw [hw] at hd
      have h' : (if K q = 2 then Except.ok q else Except.error (14 : Int)) = Except.ok p := hd
      by_cases hk : K q = 2
      · rw [if_pos hk] at h'
        obtain rfl := Except.ok.inj h'
        have := walkT_in ht l 1 q (Nat.le_refl _) htn (by rw [ht.root]; decide) hw
        exact ⟨this.1, this.2.1, hk⟩
      · rw [if_neg hk] at h'; cases h'
  obtain ⟨p1, p2, hkp⟩ := hdin
  obtain ⟨hD, hG⟩ := ht.recs p p1 p2 hkp
  have hrm := List.mem_of_getElem? m.at_
  obtain ⟨hrt, hrk⟩ := ht.used p p1 p2 hkp r hrm
  have hr1 : 1 <= r.id := (hG.each r hrm).lo
  obtain ⟨w1, hw1, hB1, hN1⟩ : ∃ w1, w.alloc (Obj.cells #[.int .i64 0, .int .i64 0] 105) = w1 /\ Below w.heap.size w w1 /\ FnAt w1 w.heap.size 0 0 := ⟨_, rfl, (Below.refl _ _).alloc (Nat.le_refl _) _, fn_new _ _ _⟩
  have kSp := hidden (fun (wx : World) (hx : Below w.heap.size w wx) => And.intro (fspot_calls (hF.below hx) (h.more hx) ok ht htn m.la m.pa) (fspot_calls (hF.below hx) (h.more hx) ok ht htn m.lb m.pb))
  have kC := hidden (fun (wx : World) (hx : Below w.heap.size w wx) (db : Nat) (hd : DirAt E db p wx) => And.intro (child_at (hF.below hx) (h.more hx) ok p1 p2 hkp hD hG hd m.at_ hrt hrk) (child_none (fb := fb) (h.more hx) ok p1 p2 hkp hD hG hd t htok (lookT_none m.no)))
  rw [m.name] at kC
  have kW := hidden (fun (wx : World) => within_calls b a wx m.lb m.la)
  rw [m.out] at kW
  have kFi := hidden (fun (wx : World) (hx : Below w.heap.size w wx) => fits_ok (hF.below hx) (h.more hx) ok ht hr1 hrt m.lvok m.lb m.pb (by rw [List.length_append]; have := m.fit; simp; omega))
  have kE := hidden (fun (wx : World) (hx : Below w.heap.size w wx) (db : Nat) (hd : DirAt E db p wx) (v v2 : Value) (dp : Option Addr) (hv : TxtsAt wx v l) (hv2 : TxtsAt wx v2 l) (x k : Int) => enter_same (fb := fb) (dp := dp) (h.more hx) ok p1 p2 hkp hD hG hd hv hv2 hl6 m.at_ t htok (lookT_none m.no) hR hW x k)
  rw [m.name] at kE
  have hdir := hidden m.dir
  have hne : ((mkB a).toList == (mkB b).toList) = false := by rw [mk_beq]; exact decide_eq_false m.ne
  have hBN := hidden (And.intro hB1 hN1)
  have hmbl : E.mb < w.heap.size := h.lts.2.2.2.2.1
  clear hF h ok ht hG hD hB1 hN1 hR hW m hmp hrm hrk
  go_enter Tryz.func75, Tryz.ntmps75
  go_wp2_with fail
  refine ((kSp.out w1 hBN.out.1).1).mono ?_
  rintro ev w2 ⟨(⟨q, v2, db, hq, rfl, hT2, hD2, hdb, -, -, -⟩ | ⟨z, bk, nm, hq, -⟩), hB2⟩
  rotate_left
  · rw [hdir.out] at hq; cases hq
  obtain rfl : q = p := by rw [hdir.out] at hq; exact (Except.ok.inj hq).symm
  have hT2h := hidden hT2
  obtain ⟨va, vc, rfl, -⟩ := hT2
  obtain ⟨w3, hw3, hB3, hS3⟩ : ∃ w3, w2.alloc (.cells #[.slice va l.length vc, .string (mkB s), ptr db] 166) = w3 /\ Below w2.heap.size w2 w3 /\ SpAt w3 w2.heap.size (.slice va l.length vc) (mkB s) (ptr db) := ⟨_, rfl, (Below.refl _ _).alloc (Nat.le_refl _) _, sp_new _ _ _ _⟩
  have hb2 : Below w.heap.size w w2 := hBN.out.1.trans (hB2.mono hBN.out.1.size)
  have hb3 : Below w.heap.size w w3 := hb2.trans (hB3.mono hb2.size)
  have s1 := hS3.c1
  have s2 := hS3.c2
  have l3 := hS3.lt
  have kC3 := hidden (kC.out w3 hb3 db (hD2.below hB3)).1
  have hN3 := hidden ((hBN.out.2.below hB2).below hB3)
  have hK3 := hidden (And.intro (hT2h.out.below hB3) (And.intro (hD2.below hB3) hS3))
  replace hb3 := hidden hb3
  replace hw3 := hidden hw3
  clear hT2h hD2 hS3 hB2 hB3 hb2 hBN hq
  generalize hLL : l.length = LL at *
  generalize hf8 : w2.heap.size = b8 at *
  go_upto_region 2 with fail
  rw [hw3.out]
  clear hw3
  go_wp2_with fail
  refine (kC3.out).mono ?_
  rintro ev w4 ⟨rfl, hB4⟩
  obtain ⟨w5, hw5, hB5, hN5⟩ : ∃ w5, w4.alloc (.cells #[.int .i64 (r.id : Nat), .int .i64 (K r.id : Nat)] 105) = w5 /\ Below w4.heap.size w4 w5 /\ FnAt w5 w4.heap.size (r.id : Nat) (K r.id : Nat) := ⟨_, rfl, (Below.refl _ _).alloc (Nat.le_refl _) _, fn_new _ _ _⟩
  have hb35 : Below w3.heap.size w3 w5 := hB4.trans (hB5.mono hB4.size)
  have hb5 : Below w.heap.size w w5 := hb3.out.trans (hb35.mono hb3.out.size)
  have x0 := hN5.c0
  have x1 := hN5.c1
  have l5 := hN5.lt
  have hK5 := hidden (And.intro (hK3.out.1.below hb35) (And.intro (hK3.out.2.1.below hb35) (And.intro (hK3.out.2.2.below hb35) (And.intro hN5 (hN3.out.below hb35)))))
  replace hb5 := hidden hb5
  replace hw5 := hidden hw5
  clear hB4 hB5 hN5 hb35 kC3 hK3 hN3 hb3 s1 s2 l3
  generalize hKR : ((K r.id : Nat) : Int) = KR at *
  generalize hRI : ((r.id : Nat) : Int) = RI at *
  generalize hf9 : w4.heap.size = b9 at *
  go_upto_region 5 with fail
  rw [hw5.out]
  clear hw5
  go_wp2_with fail
  refine (kW.out _).mono ?_
  rintro ev w6 ⟨rfl, hB6⟩
  have hK6 := hK5.out.2.2.2.1.below hB6
  have y0 := hK6.c0
  have y1 := hK6.c1
  have l6 := hK6.lt
  have hb6 : Below w.heap.size w w6 := hb5.out.trans (hB6.mono hb5.out.size)
  have kF6 := hidden (kFi.out w6 hb6)
  replace hb6 := hidden hb6
  replace hB6 := hidden hB6
  clear hK6 kW x0 x1 l5
  go_wp2_with fail
  refine (kF6.out).mono ?_
  rintro ev w7 ⟨rfl, hB7⟩
  have hb7 : Below w.heap.size w w7 := hb6.out.trans (hB7.mono hb6.out.size)
  have kS7 := hidden (kSp.out w7 hb7).2
  have hb57 := hidden (hB6.out.trans (hB7.mono hB6.out.size))
  replace hb7 := hidden hb7
  clear hB7 kF6 kFi kSp y0 y1 l6 hb6 hB6
  go_wp2_with fail
  refine (kS7.out).mono ?_
  rintro ev w8 ⟨(⟨q2, v8, db2, hq2, rfl, hT8, hD8, hdb8, -, -, -⟩ | ⟨z, bk, nm, hq2, -⟩), hB8⟩
  rotate_left
  · rw [hdir.out] at hq2; cases hq2
  obtain rfl : q2 = q := by rw [hdir.out] at hq2; exact (Except.ok.inj hq2).symm
  have hT8h := hidden hT8
  obtain ⟨va8, vc8, rfl, -⟩ := hT8
  rw [hLL] at hT8h ⊢
  obtain ⟨w9, hw9, hB9, hS9⟩ : ∃ w9, w8.alloc (.cells #[.slice va8 LL vc8, .string (mkB t), ptr db2] 166) = w9 /\ Below w8.heap.size w8 w9 /\ SpAt w9 w8.heap.size (.slice va8 LL vc8) (mkB t) (ptr db2) := ⟨_, rfl, (Below.refl _ _).alloc (Nat.le_refl _) _, sp_new _ _ _ _⟩
  have hb79 : Below w7.heap.size w7 w9 := hB8.trans (hB9.mono hB8.size)
  have hb59 : Below w5.heap.size w5 w9 := hb57.out.trans (hb79.mono hb57.out.size)
  have hb9 : Below w.heap.size w w9 := hb7.out.trans (hb79.mono hb7.out.size)
  have s1 := hS9.c1
  have s2 := hS9.c2
  have l9 := hS9.lt
  have kC9 := hidden (kC.out w9 hb9 db2 (hD8.below hB9)).2
  have hK9 := hidden (And.intro (hK5.out.1.below hb59) (And.intro (hK5.out.2.1.below hb59) (And.intro (hK5.out.2.2.1.below hb59) (And.intro (hK5.out.2.2.2.1.below hb59) (And.intro (hK5.out.2.2.2.2.below hb59) (And.intro (hT8h.out.below hB9) hS9))))))
  replace hb9 := hidden hb9
  replace hw9 := hidden hw9
  clear hT8h hD8 hS9 hB8 hB9 hb79 hb59 hb57 hK5 hb5 hb7 kS7 hq2 kC hdb8
  generalize hf11 : w8.heap.size = b11 at *
  go_upto_region 15 with fail
  rw [hw9.out]
  clear hw9
  go_wp2_with fail
  refine (kC9.out).mono ?_
  rintro ev wA ⟨bk, rfl, hcA, hBA⟩
  obtain ⟨kT1, kD1, kS1, kX1, kN1, kT2, kS2⟩ := hK9.out
  have hNA := kN1.below hBA
  have hSA1 := kS1.below hBA
  have hSA2 := kS2.below hBA
  have hXA := kX1.below hBA
  have r0 := hNA.c0
  have r1 := hNA.c1
  have g0 := hNA.f0
  have g1 := hNA.f1
  have lA := hNA.lt
  have e0 := setCell_self r0
  have e1 := setCell_self r1
  have x0 := hXA.c0
  have x1 := hXA.c1
  have u0 := hSA1.c0
  have u1 := hSA1.c1
  have u2 := hSA1.c2
  have v0 := hSA2.c0
  have v1 := hSA2.c1
  have v2' := hSA2.c2
  have lX := hXA.lt
  have lS1 := hSA1.lt
  have lS2 := hSA2.lt
  have hbA : Below w.heap.size w wA := hb9.out.trans (hBA.mono hb9.out.size)
  have kIs := is_chain 11 11 wA _ _ hcA
  rw [show ((11 : Int) == 11) = true from rfl] at kIs
  replace kIs := hidden kIs
  have kEA := hidden (kE.out wA hbA db (kD1.below hBA) _ _ (some ⟨db2, 0, none⟩) (kT1.below hBA) (kT2.below hBA) RI KR)
  have hNA' := hidden hNA
  replace hbA := hidden hbA
  clear kT1 kD1 kS1 kX1 kN1 kT2 kS2 hNA hSA1 hSA2 hXA hcA hBA kC9 kE hK9 hb9 s1 s2 l9
  go_wp2_with fail
  refine (kIs.out).mono ?_
  rintro ev wB ⟨rfl, hwB⟩
  subst wB
  go_wp2_with fail
  refine (kEA.out).mono ?_
  rintro ev wC ⟨rfl, hSC, hAC⟩
  have hmb : w.heap.size ∉ [E.mb] := by simp; omega
  have hNC := hNA'.out.keep hAC hmb
  have c0 := hNC.c0
  have c1 := hNC.c1
  have f0 := hNC.f0
  have f1 := hNC.f1
  have lC := hNC.lt
  have e2 := setCell_self c0
  have e3 := setCell_self c1
  have hE := hidden (And.intro hNC (And.intro hSC ((Apart.of_below hbA.out).trans hAC)))
  clear hSC hAC hNC kEA kIs hNA' e0 e1
  go_wp2
  (try simp only [Exit.inBlock, Exit.then])
  obtain ⟨q1, q2, q3⟩ := hE.out
  exact bodyPost_ret (ret_fnode rfl rfl q1) rfl ⟨rfl, q2, q3⟩
end
end Go.Proofs.YtpofmiecjkghgaaGreatDoor
