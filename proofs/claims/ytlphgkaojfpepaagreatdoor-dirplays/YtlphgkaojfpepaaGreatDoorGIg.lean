/- inode's wrong and about. -/
import Derived.Test.YtlphgkaojfpepaaGreatDoorGAn
import Derived.Test.YtlphgkaojfpepaaGreatDoorGIc
namespace Go.Proofs.YtlphgkaojfpepaaGreatDoor
open Go.RowKit Go.Extern.Stop Go.Stop Go.Extern Go.Shelf
set_option maxRecDepth 100000

abbrev sInode : ByteArray := ⟨#[105, 110, 111, 100, 101]⟩
theorem iwrong_nil (nm : ByteArray) (w : World) : Calls Tryz.prog 71 #[.string nm, .nilIface] w fun e w' => e = .returned .nilIface ∧ w' = w := by
  go_enter Tryz.func71, Tryz.ntmps71
  go_wp2_with fail
  refine (wrap_nil _ _ _).mono ?_
  rintro ev w4 ⟨rfl, rfl⟩
  go_wp2
  go_ret
  exact ⟨rfl, rfl⟩
theorem iwrong_some (nm : ByteArray) (w : World) (l : List (ByteArray × ByteArray)) (bot : Value) (u : TypeId) (v : Value) (hc : Chain w l bot (.iface u v)) :
    Calls Tryz.prog 71 #[.string nm, .iface u v] w fun e w' => ∃ b, e = .returned (flt b) ∧ Chain w' ((sInode, nm) :: l) bot (flt b) ∧ w.heap.size ≤ b ∧ Below w.heap.size w w' := by
  replace hc := hidden hc
  go_enter Tryz.func71, Tryz.ntmps71
  go_wp2_with fail
  refine (wrap_some sInode nm _ _ w).mono ?_
  rintro ev w4 ⟨rfl, rfl⟩
  go_wp2
  go_ret
  exact ⟨_, rfl, Chain.alloc (w := w) sInode nm hc.out, Nat.le_refl _, (Below.refl _ _).alloc (Nat.le_refl _) _⟩
theorem about_nil (id : Int) (hi : i64 id) (w : World) (hG : Ground w) :
    Calls Tryz.prog 53 #[.int .i64 id, .nilIface] w fun e w' => e = .returned .nilIface ∧ Below w.heap.size w w' := by
  have kI := hidden (itoa_below id hi hG (Below.refl _ _))
  replace hi := hidden hi
  generalize itoaB id = nm at kI
  go_enter Tryz.func53, Tryz.ntmps53
  go_wp2_with fail
  refine (kI.out).mono ?_
  rintro ev w1 ⟨rfl, hB⟩
  replace hB := hidden hB
  go_wp2_with fail
  refine (iwrong_nil _ _).mono ?_
  rintro ev w2 ⟨rfl, rfl⟩
  go_wp2
  go_ret
  exact ⟨rfl, hB.out⟩
theorem about_num (id : Int) (hi : i64 id) (n : Int) (w : World) (hG : Ground w) :
    Calls Tryz.prog 53 #[.int .i64 id, num n] w fun e w' => ∃ b, e = .returned (flt b) ∧ Chain w' [(sInode, itoaB id)] (num n) (flt b) ∧ Below w.heap.size w w' := by
  have kI := hidden (itoa_below id hi hG (Below.refl _ _))
  replace hi := hidden hi
  generalize itoaB id = nm at kI ⊢
  have kW := hidden (fun (wx : World) => iwrong_some nm wx [] (num n) _ _ rfl)
  go_enter Tryz.func53, Tryz.ntmps53
  go_wp2_with fail
  refine (kI.out).mono ?_
  rintro ev w1 ⟨rfl, hB⟩
  replace hB := hidden hB
  go_wp2_with fail
  refine (kW.out _).mono ?_
  rintro ev w2 ⟨b, rfl, hc, hb, hB2⟩
  have hE := hidden (And.intro hc (hB.out.trans (hB2.mono hB.out.size)))
  clear hc hb hB2
  go_wp2
  go_ret
  exact ⟨b, rfl, hE.out⟩
/-- A method that hands back what a step told, about an id. -/
theorem iWrite_calls {tb : Nat} {id : Int} (hi : i64 id) {at1 : Int} {v : Value} {w : World} {Q : World → Prop} (hQ : ∀ w1 w2, Q w1 → Below w1.heap.size w1 w2 → Q w2) (hG : ∀ w1, Q w1 → Ground w1)
    (kW : Calls Tryz.prog 172 #[ptr tb, .int .i64 id, .int .i64 at1, v] w fun e w' => e = .returned .nilIface ∧ Q w') (hv : ∃ a L c, v = .slice a L c) :
    Calls Tryz.prog 102 #[ptr tb, .int .i64 id, .int .i64 at1, v] w fun e w' => e = .returned .nilIface ∧ Q w' := by
  obtain ⟨a, L, c, rfl⟩ := hv
  replace kW := hidden kW
  replace hi := hidden hi
  go_enter Tryz.func102, Tryz.ntmps102
  go_wp2_with fail
  refine (kW.out).mono ?_
  rintro ev w1 ⟨rfl, hq⟩
  have kA := hidden (about_nil id hi.out w1 (hG _ hq))
  replace hq := hidden hq
  go_wp2_with fail
  refine (kA.out).mono ?_
  rintro ev w2 ⟨rfl, hB⟩
  have hE := hidden (hQ _ _ hq.out hB)
  clear hB
  go_wp2
  go_ret
  exact ⟨rfl, hE.out⟩
end Go.Proofs.YtlphgkaojfpepaaGreatDoor
/- walk over all inodes; the least free one. -/
namespace Go.Proofs.YtlphgkaojfpepaaGreatDoor
open Go.RowKit Go.Extern.Stop Go.Stop Go.Extern Go.Maps Go.Sort Go.Shelf
set_option maxRecDepth 100000

/-- What walk asks of the function that it is handed. -/
structure ISees (f : FuncId) (caps : Array Value) (tb tn : Nat) (K S : Nat → Int) (I Ex : Nat → World → Prop) : Prop where
  few : tn ≤ 1000
  ent : ∀ (args : Array Value) (w : World), (callFunc f args).run Tryz.prog w = .ok (.enter f args) w
  more : ∀ j w w', I j w → Below w.heap.size w w' → I j w'
  cell : ∀ j w, I j w → w.cell? ⟨tb, 3, none⟩ = some (.int .i64 tn)
  recd : ∀ j w, 1 ≤ j → j ≤ tn → I j w → Calls Tryz.prog 139 #[ptr tb, .int .i64 j] w fun e w' => ∃ v l, e = .returned (.tuple #[nodeV (K j) (S j) v, .nilIface]) ∧ Kept w.heap.size w' v l ∧ Below w.heap.size w w'
  call : ∀ j w a L c, 1 ≤ j → j ≤ tn → I j w → Calls Tryz.prog f (#[.int .i64 j, nodeV (K j) (S j) (.slice a L c)] ++ caps) w fun e w' => (e = .returned (.bool true) ∧ I (j + 1) w') ∨ (e = .returned (.bool false) ∧ Ex j w')
set_option maxHeartbeats 1000000 in
theorem iwalk_calls {f : FuncId} {caps : Array Value} {tb tn : Nat} {K S : Nat → Int} {I Ex : Nat → World → Prop} (hs : ISees f caps tb tn K S I Ex) (w : World) (h0 : I 1 w) :
    Calls Tryz.prog 132 #[ptr tb, .func (.func f) #[] caps] w fun e w' => e = .returned .nilIface ∧ (I (tn + 1) w' ∨ ∃ j, 1 ≤ j ∧ j ≤ tn ∧ Ex j w') := by
  have hk := hs.few
  have hent := hs.ent
  replace hs := hidden hs
  go_enter Tryz.func132, Tryz.ntmps132
  go_wp2_with fail
  go_loopg [5] (tn + 1) (fun gk q wr => ∃ j : Nat, 1 ≤ j ∧ j ≤ tn + 1 ∧ gk + j = tn + 2 ∧ q = .int .i64 j ∧ Hid (I j wr))
  case atStart => exact ⟨1, by omega, by omega, by omega, rfl, hidden h0⟩
  case round =>
    obtain ⟨j, hj1, hj, hgk, rfl, hI⟩ := hrel
    replace hgk := hidden hgk
    have c3 := hs.out.cell _ _ hI.out
    have hltb : tb < wr.heap.size := lt_of_cell (a := ⟨tb, 3, none⟩) c3
    by_cases hlt : j ≤ tn
    · have hR := hidden (hs.out.recd j _ hj1 hlt hI.out)
      go_wp2_with fail
      refine (hR.out).mono ?_
      rintro ev w2 ⟨v, l, rfl, hK, hB2⟩
      obtain ⟨a, c, rfl, -⟩ := hK.form
      have hI2 := hs.out.more _ _ _ hI.out hB2
      have hB3 : Below w2.heap.size w2 (w2.alloc (.cells #[.int .i64 (K j), .int .i64 (S j), .slice a l.length c] 129)) := (Below.refl _ _).alloc (Nat.le_refl _) _
      have hC := hidden (hs.out.call j _ a l.length c hj1 hlt (hs.out.more _ _ _ hI2 hB3))
      clear hK hB2 hR hI hB3 hI2 c3
      generalize l.length = LL at *
      generalize K j = KK at *
      generalize S j = SS at *
      go_wp2_with fail
      refine (hC.out).mono ?_
      rintro ev w4 (⟨rfl, hI4⟩ | ⟨rfl, hE4⟩)
      · replace hI4 := hidden hI4
        clear hC
        go_wp2
        go_roundg (tn + 2 - (j + 1))
        case measure => have := hgk.out; omega
        case rel => exact ⟨j + 1, by omega, by omega, by have := hgk.out; omega, by go_num, hI4⟩
      · replace hE4 := hidden hE4
        clear hC
        go_wp2
        go_ret
        exact ⟨rfl, Or.inr ⟨j, hj1, hlt, hE4.out⟩⟩
    · obtain rfl : j = tn + 1 := by omega
      go_wp2
      go_ret
      exact ⟨rfl, Or.inl hI.out⟩
theorem ileast1_calls {W w : World} {p : Nat} {j KK SS : Int} {a : Option Addr} {L c : Nat} (hj : ¬ j = 0) (h : Going W p (.int .i64 0) w) :
    Calls Tryz.prog 133 #[.int .i64 j, nodeV KK SS (.slice a L c), ptr p] w fun e w' => e = .returned (.bool (decide (¬ KK = 0))) ∧ Going W p (if KK = 0 then .int .i64 j else .int .i64 0) w' := by
  have hc := h.cell
  have hf := h.free
  have hlt : p < w.heap.size := lt_of_cell hc
  have hB : Below w.heap.size w (w.alloc (.cells #[.int .i64 KK, .int .i64 SS, .slice a L c] 129)) := (Below.refl _ _).alloc (Nat.le_refl _) _
  have hG := hidden (h.more hB)
  have hc2 := hG.out.cell
  have hf2 := hG.out.free
  have h0 := hidden h
  clear h
  by_cases hK : KK = 0
  · subst hK
    have hs := hidden ((h0.out.set (.int .i64 j)).more ((Below.refl _ _).alloc (Nat.le_refl _) (.cells #[.int .i64 0, .int .i64 SS, .slice a L c] 129)))
    go_enter Tryz.func133, Tryz.ntmps133
    go_wp2
    go_ret
    exact ⟨by simp [hj], by simpa using hs.out⟩
  · go_enter Tryz.func133, Tryz.ntmps133
    go_wp2
    go_ret
    exact ⟨by simp, hG.out⟩
section
variable {E : TE} {mem : Nat → Int} {writes : Int} {M : Chg} {w w' : World}
/-- What the blocks of all inodes say. -/
def TE.Says (E : TE) (mem : Nat → Int) (M : Chg) (N : Nat → Nd) : Prop := ∀ id, 1 ≤ id → id ≤ E.tn → (N id).ok ∧ nowM mem M (E.ta + id - 1) = recL (N id).kind (N id).size (N id).list
theorem TE.St.record (h : E.St mem writes M w) (ok : E.Ok) {N : Nat → Nd} (hN : E.Says mem M N) (id : Nat) (h1 : 1 ≤ id) (h2 : id ≤ E.tn) :
    Calls Tryz.prog 139 #[ptr E.tb, .int .i64 id] w fun e w' => ∃ v, e = .returned (.tuple #[nodeV (N id).kind (N id).size v, .nilIface]) ∧ Kept w.heap.size w' v ((N id).list.take 9) ∧ Below w.heap.size w w' := by
  obtain ⟨l1, l2⟩ := ok.low _ (ok.recs id h1 h2)
  exact record_calls h.c ok.live h.t (by have := ok.tn; omega) (by have := ok.ta; omega) id h1 h2 l1 l2 (hN id h1 h2).1 (hN id h1 h2).2
theorem ileast_sees (h : E.St mem writes M w) (ok : E.Ok) {N : Nat → Nd} (hN : E.Says mem M N) (p : Nat) :
    ISees 133 #[ptr p] E.tb E.tn (fun j => (N j).kind) (fun j => (N j).size) (fun j wx => Going w p (.int .i64 0) wx ∧ ∀ i, 1 ≤ i → i < j → (N i).kind ≠ 0) (fun j wx => Going w p (.int .i64 j) wx ∧ (N j).kind = 0 ∧ ∀ i, 1 ≤ i → i < j → (N i).kind ≠ 0) where
  few := by have := ok.tn; omega
  ent := enters_of Tryz.func133 (by kernel_rfl) rfl
  more := fun j wx wy hI hb => ⟨hI.1.more hb, hI.2⟩
  cell := fun j wx hI => (h.t.below hI.1.below).c3
  recd := fun j wx h1 h2 hI => ((h.more hI.1.below).record ok hN j h1 h2).mono fun e wy ⟨v, q1, q2, q3⟩ => ⟨v, _, q1, q2, q3⟩
  call := fun j wx a L c h1 h2 hI => by
    refine (ileast1_calls (j := (j : Int)) (KK := ((N j).kind : Int)) (by omega) hI.1).mono ?_
    rintro e wy ⟨rfl, hG⟩
    by_cases hk : (N j).kind = 0
    · rw [if_pos (by omega)] at hG
      exact Or.inr ⟨by simp [hk], hG, hk, hI.2⟩
    · rw [if_neg (by omega)] at hG
      refine Or.inl ⟨by simp [hk], hG, fun i hi1 hi2 => ?_⟩
      rcases Nat.lt_succ_iff_lt_or_eq.1 hi2 with hlt | rfl
      · exact hI.2 i hi1 hlt
      · exact hk
set_option maxHeartbeats 1000000 in
theorem ileast_calls (h : E.St mem writes M w) (ok : E.Ok) {N : Nat → Nd} (hN : E.Says mem M N) :
    Calls Tryz.prog 72 #[ptr E.tb] w fun e w' => Below w.heap.size w w' ∧ ((∃ id : Nat, 1 ≤ id ∧ id ≤ E.tn ∧ e = .returned (.tuple #[.int .i64 id, .nilIface]) ∧ (N id).kind = 0 ∧ ∀ i, 1 ≤ i → i < id → (N i).kind ≠ 0) ∨ (e = .returned (.tuple #[.int .i64 0, num 16]) ∧ ∀ id, 1 ≤ id → id ≤ E.tn → (N id).kind ≠ 0)) := by
  have hmf : ∀ (fn : Fn) (first cap : Array Value) (w : World), (Instr.makeFunc fn first cap).run Tryz.prog w = .ok (.func fn first cap) w := fun _ _ _ _ => rfl
  have hG0 : Going w w.heap.size (.int .i64 0) (w.alloc (.cells #[.int .i64 0] 3)) := ⟨by simp, by simp, Nat.le_refl _, (Below.refl _ _).alloc (Nat.le_refl _) _⟩
  have hW := hidden (iwalk_calls (ileast_sees h ok hN w.heap.size) _ ⟨hG0, fun i h1 h2 => absurd h1 (by omega)⟩)
  clear h ok hG0
  go_enter Tryz.func72, Tryz.ntmps72
  go_wp2_with fail
  refine (hW.out).mono ?_
  rintro ev w1 ⟨rfl, (⟨hG1, hb1⟩ | ⟨i, hi1, hi2, hG1, hk, hb1⟩)⟩
  · have c1 := hG1.cell
    have hB1 := hidden hG1.below
    replace hb1 := hidden hb1
    clear hG1 hW
    go_wp2
    go_ret2
    exact ⟨hB1.out, Or.inr ⟨rfl, fun id h1 h2 => hb1.out id h1 (by omega)⟩⟩
  · have c1 := hG1.cell
    have hB1 := hidden hG1.below
    replace hb1 := hidden hb1
    replace hk := hidden hk
    have hne : ¬ (i : Int) = 0 := by omega
    clear hG1 hW
    go_wp2
    go_ret2
    exact ⟨hB1.out, Or.inl ⟨i, hi1, hi2, rfl, hk.out, hb1.out⟩⟩
end
end Go.Proofs.YtlphgkaojfpepaaGreatDoor
/- Make. -/
namespace Go.Proofs.YtlphgkaojfpepaaGreatDoor
open Go.RowKit Go.Extern.Stop Go.Stop Go.Extern Go.Maps Go.Sort Go.Shelf
set_option maxRecDepth 100000

section
variable {E : TE} {mem : Nat → Int} {writes : Int} {M : Chg} {w w' : World}
theorem make_bad (tb : Nat) (kind : Int) (h1 : ¬ kind = 1) (h2 : ¬ kind = 2) :
    Calls Tryz.prog 40 #[ptr tb, .int .i64 kind] w fun e w' => ∃ b, e = .returned (.tuple #[.int .i64 0, flt b]) ∧ Chain w' [(sInode, sNone)] (num 1) (flt b) ∧ Below w.heap.size w w' := by
  have kW := hidden (fun (wx : World) => iwrong_some sNone wx [] (num 1) _ _ rfl)
  have b1 : (kind != 1) = true := by simp [h1]
  have b2 : (kind != 2) = true := by simp [h2]
  go_enter Tryz.func40, Tryz.ntmps40
  go_wp2_with fail
  refine (kW.out _).mono ?_
  rintro ev w2 ⟨b, rfl, hc, hb, hB3⟩
  have hE := hidden (And.intro hc hB3)
  clear hc hb hB3
  go_wp2
  go_ret2
  exact ⟨b, rfl, hE.out⟩
set_option maxHeartbeats 1000000 in
theorem make_none (h : E.St mem writes M w) (ok : E.Ok) {N : Nat → Nd} (hN : E.Says mem M N) (kind : Int) (hk : kind = 1 ∨ kind = 2) (hall : ∀ id, 1 ≤ id → id ≤ E.tn → (N id).kind ≠ 0) :
    Calls Tryz.prog 40 #[ptr E.tb, .int .i64 kind] w fun e w' => ∃ b, e = .returned (.tuple #[.int .i64 0, flt b]) ∧ Chain w' [(sInode, sNone)] (num 16) (flt b) ∧ Below w.heap.size w w' := by
  have kW := hidden (fun (wx : World) => iwrong_some sNone wx [] (num 16) _ _ rfl)
  have kL := hidden (ileast_calls h ok hN)
  replace hall := hidden hall
  clear h ok hN
  rcases hk with rfl | rfl
  all_goals
    go_enter Tryz.func40, Tryz.ntmps40
    go_wp2_with fail
    refine (kL.out).mono ?_
    rintro ev w1 ⟨hB1, (⟨id, i1, i2, rfl, hk, hlow⟩ | ⟨rfl, hno⟩)⟩
    · exact absurd hk (hall.out id i1 i2)
    · replace hB1 := hidden hB1
      clear hno kL
      go_wp2_with fail
      refine (kW.out _).mono ?_
      rintro ev w2 ⟨b, rfl, hc, hb, hB3⟩
      have hE := hidden (And.intro hc (hB1.out.trans (hB3.mono hB1.out.size)))
      clear hc hb hB3
      go_wp2
      go_ret2
      exact ⟨b, rfl, hE.out⟩
set_option maxHeartbeats 2000000 in
theorem make_calls (h : E.St mem writes M w) (ok : E.Ok) {N : Nat → Nd} (hN : E.Says mem M N) (kind : Nat) (hk : kind = 1 ∨ kind = 2) (id : Nat) (h1 : 1 ≤ id) (h2 : id ≤ E.tn) (hfree : (N id).kind = 0) (hlow : ∀ i, 1 ≤ i → i < id → (N i).kind ≠ 0) :
    Calls Tryz.prog 40 #[ptr E.tb, .int .i64 kind] w fun e w' => e = .returned (.tuple #[.int .i64 id, .nilIface]) ∧ ∃ M', (∀ no, nowM mem M' no = if no = E.ta + id - 1 then recL kind 0 [] else nowM mem M no) ∧ E.St mem writes M' w' ∧ Apart [E.mb] w w' := by
  have kL := hidden (ileast_calls h ok hN)
  have hst := hidden h
  have htn := ok.tn
  have hta := ok.ta
  have hlt := h.t.lt
  have kt0 := hidden (fun (wx : World) (hx : Apart [E.mb] w wx) => (hx.cell (p := ⟨E.tb, 0, none⟩) hlt (by simpa using ok.tbm)).trans h.t.c0)
  have hun : Hid (∀ j, 1 ≤ j → (N j).kind = 0 → (∀ i, 1 ≤ i → i < j → (N i).kind ≠ 0) → j = id) := hidden (fun j hj hk hl => by
    rcases Nat.lt_trichotomy j id with hlt | rfl | hgt
    · exact absurd hk (hlow j hj hlt)
    · rfl
    · exact absurd hfree (hl id h1 hgt))
  have hex : Hid (¬ ∀ j, 1 ≤ j → j ≤ E.tn → (N j).kind ≠ 0) := hidden (fun hh => hh id h1 h2 hfree)
  replace ok := hidden ok
  have hkb : (kind : Int) = 1 ∨ (kind : Int) = 2 := by omega
  have hk255 : kind ≤ 255 := by omega
  clear h hN hk
  obtain ⟨K, hK⟩ : ∃ K : Int, (kind : Int) = K := ⟨_, rfl⟩
  rw [hK] at hkb ⊢
  rcases hkb with rfl | rfl
  all_goals
    go_enter Tryz.func40, Tryz.ntmps40
    go_wp2_with fail
    refine (kL.out).mono ?_
    rintro ev w1 ⟨hB1, (⟨j, i1, i2, rfl, hjk, hjl⟩ | ⟨rfl, hno⟩)⟩
    · obtain rfl := hun.out j i1 hjk hjl
      have hS1 := hst.out.more hB1
      have hA1 := hidden (Apart.of_below (bs := [E.mb]) hB1)
      have hAd := hidden (hA1.out.trans (Apart.of_below (below_drew1 w1)))
      have hSd := hS1.more (below_drew1 w1)
      have tc1 := hS1.t.c0
      have hltb := hS1.t.lt
      have kHm := hidden (ihome_calls hSd.t j i1 (by omega) (by omega))
      have kWr := iwritten_calls (w := w1.drew) kind 0 hk255 (by omega) (v := .slice none 0 0) (ks := []) ⟨none, 0, rfl, by simp, by decide, fun _ => rfl, fun e => absurd rfl e⟩ (fun z hz => by cases hz)
      rw [hK] at kWr
      replace kWr := hidden kWr
      have kC1 := hidden (fun (wx : World) (hx : Below w1.drew.heap.size w1.drew wx) (b : Nat) (hb : OwnB w1.drew.heap.size wx b 128 128 (recL kind 0 [])) => show Calls Tryz.prog 73 #[ptr E.cb, .int .i64 ((E.ta + j - 1 : Nat) : Int), .int .i64 0, .slice (some ⟨b, 0, none⟩) 128 128] wx fun e w' => e = .returned .nilIface ∧ ∃ M', E.St mem writes M' w' ∧ Apart [E.mb] wx w' ∧ ∀ i, nowM mem M' i = if i = E.ta + j - 1 then recL kind 0 [] else nowM mem M i from by
        have hr := recL_row (size := 0) hk255 (by omega) []
        refine ((hSd.more hx).write ok.out (ok.out.recs j i1 i2) 0 _ _ hb.bytes (by rw [hr.1]; omega)).mono ?_
        rintro e w' ⟨rfl, M', q1, q2, q3⟩
        refine ⟨rfl, M', q1, q2, fun i => ?_⟩
        rw [q3 i]
        congr 1
        unfold layL
        rw [List.take_zero, List.nil_append, Nat.zero_add, hr.1, List.drop_of_length_le (by rw [((hSd.more hx).row _).1]; omega), List.append_nil])
      obtain ⟨RR, hRR⟩ : ∃ RR, RR = recL kind 0 [] := ⟨_, rfl⟩
      obtain ⟨REC, hREC⟩ : ∃ REC, REC = E.ta + j - 1 := ⟨_, rfl⟩
      rw [← hRR] at kWr kC1
      rw [← hREC] at kHm kC1
      replace hRR := hidden hRR
      replace hREC := hidden hREC
      clear hS1 hSd hjk hjl hB1 hst kL hun hex hfree hlow
      have hjne : (j : Int) ≤ 200 := by omega
      go_upto_region 6 with fail
      go_cut [8] (fun p wx => p = .nilIface ∧ ∃ M', E.St mem writes M' wx ∧ Apart [E.mb] w wx ∧ ∀ i, nowM mem M' i = if i = REC then RR else nowM mem M i)
      case first =>
        have hS0 := hAd.out
        refine wp_region_held_drew (S := fun w' => Apart [E.mb] w w') (by kernel_rfl) hS0 ?_
        intro _
        refine wpAnyH_take (i := 0) (v := ?_) rfl (by kernel_rfl) (by kernel_rfl) (by kernel_rfl) (fun _ _ _ h => h) (Or.inl ⟨by rfl, ?_⟩) hS0 ?_
        rotate_left
        · intro w hw; clear hw; go_simp; try (with_reducible rfl)
        refine wpAnyH_take (i := 1) (v := ?_) rfl (by kernel_rfl) (by kernel_rfl) (by kernel_rfl) (fun _ _ _ h => h) (Or.inl ⟨by rfl, ?_⟩) hS0 ?_
        rotate_left
        · intro w hw; clear hw; go_simp; try (with_reducible rfl)
        refine wpAnyH_take (i := 2) (v := ?_) rfl (by kernel_rfl) (by kernel_rfl) (by kernel_rfl) (fun _ _ _ h => h) (Or.inl ⟨by rfl, ?_⟩) hS0 ?_
        rotate_left
        · intro w hw; clear hw; go_simp; try (with_reducible rfl)
        refine wpAnyH_take (i := 3) (v := ?_) rfl (by kernel_rfl) (by kernel_rfl) (by kernel_rfl) (fun _ _ _ h => h) (Or.inl ⟨by rfl, ?_⟩) hS0 ?_
        rotate_left
        · intro w hw; have tcx := kt0.out _ hw; clear hw; go_simp; try (with_reducible rfl)
        refine wpAnyH_take (i := 4) (v := ?_) rfl (by kernel_rfl) (by kernel_rfl) (by kernel_rfl) (fun _ _ _ h => h) (Or.inl ⟨by rfl, ?_⟩) hS0 ?_
        rotate_left
        · intro w hw; clear hw; go_simp; try (with_reducible rfl)
        refine wpAnyH_take (i := 5) (v := ?_) rfl (by kernel_rfl) (by kernel_rfl) (by kernel_rfl) (fun _ _ _ h => h) (Or.inl ⟨by rfl, ?_⟩) hS0 ?_
        rotate_left
        · intro w hw; clear hw; go_simp; try (with_reducible rfl)
        refine wpAnyH_take (i := 7) (v := ?_) rfl (by kernel_rfl) (by kernel_rfl) (by kernel_rfl) (fun _ _ _ h => h) (Or.inl ⟨by rfl, ?_⟩) hS0 ?_
        rotate_left
        · intro w hw; clear hw; go_simp; try (with_reducible rfl)
        refine wpAnyH_take (i := 8) (v := ?_) rfl (by kernel_rfl) (by kernel_rfl) (by kernel_rfl) (fun _ _ _ h => h) (Or.inl ⟨by rfl, ?_⟩) hS0 ?_
        rotate_left
        · intro w hw; clear hw; go_simp; try (with_reducible rfl)
        refine wpAnyH_ready (rs := [6]) (by kernel_rfl) (by simp) ?_
        refine AllReadyH.cons rfl (fun K hK => ?_) AllReadyH.nil
        go_simp
        go_wp2_with (go_at_call 74; refine (kHm.out).mono ?_; rintro ev w5 ⟨rfl, rfl⟩)
        refine hK.out _ _ hS0 (fun _ => ?_)
        clear hK K
        refine wpAnyH_ready (rs := [9]) (by kernel_rfl) (by simp) ?_
        refine AllReadyH.cons rfl (fun K hK => ?_) AllReadyH.nil
        go_simp
        go_wp2_with (go_at_call 75; refine (kWr.out).mono ?_; rintro ev w6 ⟨b6, rfl, hO6, hB6⟩)
        refine hK.out _ _ (hS0.trans (Apart.of_below hB6)) (fun hSn1 => ?_)
        clear hK K
        refine wpAnyH_ready (rs := [10]) (by kernel_rfl) (by simp) ?_
        refine AllReadyH.cons rfl (fun K hK => ?_) AllReadyH.nil
        go_simp
        go_wp2_with (go_at_call 73; refine (kC1.out _ hB6 _ hO6).mono ?_; rintro ev w7 ⟨rfl, M7, q1, q2, q3⟩)
        refine hK.out _ _ (hSn1.trans q2) (fun hSn2 => ?_)
        clear hK K
        refine wpAnyH_ready (rs := [11]) (by kernel_rfl) (by simp) ?_
        refine AllReadyH.cons rfl (fun K hK => ?_) AllReadyH.nil
        go_simp
        refine hK.out _ _ hSn2 (fun _ => ?_)
        clear hK K
        refine wpAnyH_done (by kernel_rfl) ?_ _
        have hE7 := hidden (And.intro q1 (And.intro hSn2 q3))
        clear q1 q2 q3 hO6 hB6
        go_wp2
        go_meet
        case rel => exact ⟨rfl, M7, hE7.out⟩
      case rest =>
        obtain ⟨rfl, M', s1, s2, s3⟩ := hcut
        rw [hRR.out, hREC.out] at s3
        have hE := hidden (And.intro s3 (And.intro s1 s2))
        clear s1 s2 s3
        go_wp2
        go_ret2
        exact ⟨rfl, M', hE.out⟩
    · exact absurd hno hex.out
end
end Go.Proofs.YtlphgkaojfpepaaGreatDoor
/- New; what a statement of layer 8 makes. -/
namespace Go.Proofs.YtlphgkaojfpepaaGreatDoor
open Go.RowKit Go.Extern.Stop Go.Stop Go.Extern Go.Maps Go.Sort Go.Shelf
set_option maxRecDepth 100000

theorem inew_calls (cb ab ta tn : Nat) (h1 : 1 ≤ tn) (h2 : tn ≤ 200) (h3 : ta ≤ 1000000) (w : World) :
    Calls Tryz.prog 39 #[ptr cb, ptr ab, .int .i64 ta, .int .i64 tn] w fun e w' => e = .returned (.tuple #[ptr w.heap.size, .nilIface]) ∧ TbAt w.heap.size cb ab ta tn w' ∧ Below w.heap.size w w' := by
  go_enter Tryz.func39, Tryz.ntmps39
  go_wp2
  go_ret2
  exact ⟨rfl, ⟨by simp, by simp, by simp, by simp⟩, (Below.refl _ _).alloc (Nat.le_refl _) _⟩
theorem need120 : 120 + needN 80 ≤ 220 := by decide
theorem made120_calls (w : World) (hG : Ground w) :
    Calls Tryz.prog 37 #[.int .i64 120] w fun e w' => ∃ jb cb mb, e = .returned (.tuple #[ptr (w.heap.size + 1), ptr cb]) ∧ CSt w (w.heap.size + 1) w.heap.size 220 jb cb mb 120 80 120 (fun _ => 0) 0 (-1) [] w' := by
  go_enter Tryz.func37, Tryz.ntmps37
  go_wp2_with fail
  refine (sys_new 220 (by omega) (by omega) w hG).mono ?_
  rintro ev w1 ⟨rfl, hS⟩
  have hO := hidden (open_idle hS (by decide) 120 80 ⟨by omega, by omega⟩ need120 (idle_zero7 120))
  have hdl1 := hS.disk.lt
  replace hS := hidden hS
  clear hG
  go_wp2_with fail
  refine (hO.out).mono ?_
  rintro ev w2 ⟨jb, rfl, hJ, hjb, hB2⟩
  have hN := hidden (cnew_calls (hS.out.more hB2) hJ ⟨by omega, by omega⟩ 120 (by omega))
  clear hO hS hJ hB2
  go_wp2_with fail
  refine (hN.out).mono ?_
  rintro ev w3 ⟨rfl, hC, -⟩
  replace hC := hidden hC
  clear hN
  go_wp2
  go_ret2
  exact ⟨jb, _, _, rfl, hC.out⟩
/-- All blocks of a Table of six inodes over a Map of k blocks. -/
def allA (k : Nat) : List Nat := 0 :: ([5, 6, 7, 8, 9, 10] ++ (List.range k).map fun i => 20 + i)
/-- Where what a statement of layer 8 made lies. -/
def te8 (w : World) (jb cb mb ab tb k : Nat) : TE := { w0 := w, d := w.heap.size + 1, g := w.heap.size, n := 220, jb := jb, cb := cb, mb := mb, at_ := 120, most := 80, blocks := 120, left := -1, ab := ab, ma := 0, fr := 20, k := k, kk := k, tb := tb, ta := 5, tn := 6, A := allA k }
theorem te8_ok (w : World) (jb cb mb ab tb k : Nat) (h1 : 1 ≤ k) (h2 : k ≤ 60) (ha : ab ≠ mb) (ht : tb ≠ mb) : (te8 w jb cb mb ab tb k).Ok where
  fit := ⟨by show 0 < 100000; omega, h1, by show k ≤ 2048; omega, by show homeA 0 (k - 1) < 220; unfold homeA; omega, by show (homeA 0 (k - 1) : Int) < 120; unfold homeA; omega, by show 20 + k ≤ 9223372036854775807; omega⟩
  le := Nat.le_refl _
  live := by show (-1 : Int) ≠ 0; decide
  abm := ha
  tbm := ht
  few := by show (allA k).length ≤ 80; simp [allA]; omega
  most := by show 80 ≤ 1000; omega
  low := fun a h => by
    show a < 220 ∧ (a : Int) < 120
    have h' : a ∈ allA k := h
    simp [allA] at h'
    rcases h' with h' | h' | h' | h' | h' | h' | h' | ⟨i, hi, h'⟩ <;> omega
  home := fun i hi => by
    show homeA 0 i ∈ allA k
    have hi' : i < k := hi
    have : homeA 0 i = 0 := by unfold homeA; omega
    rw [this]
    simp [allA]
  recs := fun id h1 h2 => by
    show 5 + id - 1 ∈ allA k
    have h2' : id ≤ 6 := h2
    simp [allA]
    omega
  data := fun i hi => by
    show 20 + i ∈ allA k
    have hi' : i < k := hi
    simp [allA]
    omega
  hd := fun i j hi _ => by
    show homeA 0 i ≠ 20 + j
    have hi' : i < k := hi
    unfold homeA
    omega
  hr := fun i id hi h1 _ => by
    show homeA 0 i ≠ 5 + id - 1
    have hi' : i < k := hi
    unfold homeA
    omega
  dr := fun i id _ h1 h2 => by
    show 20 + i ≠ 5 + id - 1
    have h2' : id ≤ 6 := h2
    omega
  ta := by show 5 ≤ 100000; omega
  tn := by show 6 ≤ 200; omega
  fr := by show 20 + k ≤ 1000000; omega
  k := by show k ≤ 500; omega
/-- Map and Table are not the Disk's. -/
def TE.Far (E : TE) : Prop := (E.ab ≠ E.d ∧ E.ab ≠ E.g) ∧ E.tb ≠ E.d ∧ E.tb ≠ E.g
end Go.Proofs.YtlphgkaojfpepaaGreatDoor
