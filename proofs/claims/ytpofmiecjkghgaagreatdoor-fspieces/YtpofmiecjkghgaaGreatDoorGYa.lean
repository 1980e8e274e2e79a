/- Who holds which file: the map of holdings, whatever is in it. -/
import Derived.Test.YtpofmiecjkghgaaGreatDoorGXe
import Derived.Maps.OwnSet
namespace Go.Proofs.YtpofmiecjkghgaaGreatDoor
open Go.RowKit Go.Extern.Stop Go.Stop Go.Extern Go.Maps Go.Sort Go.Shelf
set_option maxRecDepth 100000
def holdR (v : Value) : Option (DataW (List Int) × List MemPlace) := match v with
  | .agg cs => match cs.toList with
    | [.int .i64 t, .bool b] => some (.held [t, if b then 1 else 0], [])
    | _ => none
  | _ => none
theorem holdR_mk (t : Int) (b : Bool) : holdR (.agg #[.int .i64 t, .bool b]) = some (.held [t, if b then 1 else 0], []) := rfl
theorem holdR_inv {v : Value} {z : DataW (List Int) × List MemPlace} (h : holdR v = some z) : ∃ t b, v = .agg #[.int .i64 t, .bool b] /\ z = (.held [t, if b then 1 else 0], []) := by
  unfold holdR at h
  split at h
  · rename_i cs
    split at h
    · rename_i t b e
      refine ⟨t, b, ?_, (Option.some.inj h).symm⟩
      congr 1
      apply Array.ext'
      rw [e]
    · cases h
  · cases h
structure HeldAt (fb hb : Nat) (E : TE) (H : Chg) (w : World) : Prop where
  own : w.ownsMap Tryz.prog 3 holdR hb H.length (datM H)
  ne : hb ≠ E.d /\ hb ≠ E.g /\ hb ≠ E.mb /\ hb ≠ fb /\ E.w0.heap.size <= hb
def hT (H : Chg) (i : Int) : Int := (getM i H [0, 0]).getD 0 0
def hBit (H : Chg) (i : Int) : Bool := decide ((getM i H [0, 0]).getD 1 0 ≠ 0)
section
variable {fb hb : Nat} {E : TE} {H : Chg} {w w' : World} {bs : List Nat}
theorem HNo.held (h : HNo fb hb E w) : HeldAt fb hb E [] w :=
  ⟨⟨#[], 0, h.no, ⟨by simp, stamped_empty 0, by simp⟩, Nat.le_refl _, rfl⟩, h.ne⟩
theorem HeldAt.lt (h : HeldAt fb hb E H w) : hb < w.heap.size := h.own.lt
theorem HeldAt.keep (h : HeldAt fb hb E H w) (ha : Apart bs w w') (hn : hb ∉ bs) : HeldAt fb hb E H w' := by
  obtain ⟨es, clock, hx, F, hs, hD⟩ := h.own
  exact ⟨⟨es, clock, (ha.block hb h.lt hn).trans hx, F, hs, hD⟩, h.ne⟩
theorem HeldAt.below (h : HeldAt fb hb E H w) (hB : Below w.heap.size w w') : HeldAt fb hb E H w' := h.keep (Apart.of_below (bs := []) hB) (by simp)
theorem HeldAt.turns (h : HeldAt fb hb E H w) (ha : E.Turns fb w w') : HeldAt fb hb E H w' := h.keep ha (by have := h.ne; simp; omega)
theorem HeldAt.at (h : HeldAt fb hb E H w) (A : List Nat) (U R W : Nat -> Prop) (ku : Nat) : HeldAt fb hb (E.at A U R W ku) H w := ⟨h.own, h.ne⟩
theorem HeldAt.rest (h : HeldAt fb hb E H w) : HeldAt fb hb E.rest H w := ⟨h.own, h.ne⟩
theorem HeldAt.noCell (h : HeldAt fb hb E H w) (j : Nat) : w.cell? ⟨hb, j, none⟩ = none := by
  obtain ⟨es, clock, hm, -⟩ := h.own
  unfold World.cell?
  simp [hm]
theorem HeldAt.neCell (h : HeldAt fb hb E H w) {b j : Nat} {v : Value} (hc : w.cell? ⟨b, j, none⟩ = some v) : b ≠ hb := fun e => by
  subst e
  rw [h.noCell] at hc
  cases hc
theorem HeldAt.fsz {rs : Nat} {K : Nat -> Nat} {D : Nat -> List Int} {T : Nat -> List Rec} {f lim : Nat} (h : HeldAt fb hb E H w) (hz : Fsz fb rs hb E K D T f lim w) (ha : Apart [hb] w w') : Fsz fb rs hb E K D T f lim w' := by
  obtain ⟨n1, n2, n3, n4, n5⟩ := h.ne
  refine ⟨hz.at_.keep ha (by simp; omega), ?_, hz.pl, hz.far, hz.tree⟩
  obtain ⟨mem, writes, N, h1, h2⟩ := hz.s
  have e1 := h.neCell h1.c.jat.c0
  have e2 := h.neCell h1.c.cat.c0
  have e3 := h.neCell h1.m.c0
  have e4 := h.neCell h1.t.c0
  exact ⟨mem, writes, N, h1.keepA ha (by simp; omega) (fun b hb' => by rw [List.mem_singleton.1 hb']; exact n5), h2⟩
theorem HeldAt.look (h : HeldAt fb hb E H w) (i : Int) (hi : i64 i) (c : Bool) :
    (Instr.lookup 95 (.map (some hb)) (.int .i64 i) c).run Tryz.prog w = .ok (if c then .tuple #[.agg #[.int .i64 (hT H i), .bool (hBit H i)], .bool (hasM i H)] else .agg #[.int .i64 (hT H i), .bool (hBit H i)]) w := by
  have hz : (zeroValue 113).run Tryz.prog w = .ok (.agg #[.int .i64 0, .bool false]) w := Tryz.zeroValue113 w
  obtain ⟨es, clock, hx, F, hs, hD⟩ := h.own
  rcases Maps.fit_look c keyedI Tryz.underlying95 hz hx F (keyI i hi) with ⟨hrun, hno, hat⟩ | ⟨e0, y, hm, hek, hrun, hRv, hat, _⟩
  · have h0 : hasM i H = false := by
      rw [<- has_dat, hD]
      exact Maps.has_false_of_atKey hat
    have e1 : hT H i = 0 := by unfold hT; rw [getM_none h0]; rfl
    have e2 : hBit H i = false := by unfold hBit; rw [getM_none h0]; rfl
    rw [hrun, e1, e2, h0]
  · have hA := hat (.held [0, 0])
    rw [<- hD, at_dat] at hA
    obtain ⟨t, b, hv, rfl⟩ := holdR_inv hRv
    have hg : getM i H [0, 0] = [t, if b then 1 else 0] := by simpa using hA
    have h1 : hasM i H = true := by
      cases hh : hasM i H with
      | true => rfl
      | false =>
        have := hat (.held [t, 2])
        rw [<- hD, at_dat, getM_none hh] at this
        cases b <;> simp at this
    have e1 : hT H i = t := by unfold hT; rw [hg]; rfl
    have e2 : hBit H i = b := by unfold hBit; rw [hg]; cases b <;> rfl
    rw [hrun, h1, e1, e2, hv]
theorem HeldAt.store (h : HeldAt fb hb E H w) (i : Int) (hi : i64 i) (hup : H.Pairwise (fun p q => p.1 < q.1)) (hl : H.length <= 1000) (t : Int) (b : Bool) :
    ∃ w', (Instr.mapUpdate 95 (.map (some hb)) (.int .i64 i) (.agg #[.int .i64 t, .bool b])).run Tryz.prog w = .ok () w' /\ HeldAt fb hb E (putM i [t, if b then 1 else 0] H) w' /\ Apart [hb] w w' := by
  obtain ⟨w', hrun, hown, hg⟩ := h.own.update keyedI Tryz.underlying95 (by unfold maxLen; omega) (keyI i hi) (holdR_mk t b)
  rw [put_dat] at hown
  refine ⟨w', hrun, ⟨?_, h.ne⟩, ⟨hg.os, hg.tape, hg.output, hg.size, fun k hk hn => hg.block k hk (fun e => hn (by rw [Option.some.inj e]; simp))⟩⟩
  obtain ⟨es, clock, hx, F, hs, hD⟩ := hown
  refine ⟨es, clock, hx, F, ?_, hD⟩
  have := congrArg Maps.size hD
  rw [size_dat, Maps.size_eq, length_sorted] at this
  simp at this
  omega
end
section
variable {fb rs hb : Nat} {E : TE} {H : Chg} {w w' : World}
set_option maxHeartbeats 1000000 in
theorem holds_at (hF : FsAt fb E rs hb w) (hh : HeldAt fb hb E H w) (id : Int) (hi : i64 id) :
    Calls Tryz.prog 76 #[ptr fb, .int .i64 id] w fun e w' => e = .returned (.bool (decide (0 < hT H id))) /\ w' = w := by
  have c6 := hF.c6
  have hlt := hF.lt
  have hlk := hh.look id hi false
  simp only [Bool.false_eq_true, if_false] at hlk
  have hfd : ∀ w : World, (Instr.field 113 (.agg #[.int .i64 (hT H id), .bool (hBit H id)]) 0).run Tryz.prog w = .ok (.int .i64 (hT H id)) w := fun w => rfl
  clear hF hh
  go_enter Tryz.func76, Tryz.ntmps76
  go_wp2
  go_ret
  exact ⟨rfl, rfl⟩
end
end Go.Proofs.YtpofmiecjkghgaaGreatDoor
