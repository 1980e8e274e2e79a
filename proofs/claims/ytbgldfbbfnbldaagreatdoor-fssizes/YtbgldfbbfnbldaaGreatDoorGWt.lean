/- FsSizes, cut into declarations: what they share. -/
import Derived.Test.YtbgldfbbfnbldaaGreatDoorWs0z
import Derived.Deep.RegionHeld
namespace Go.Proofs.YtbgldfbbfnbldaaGreatDoor
open Go.RowKit Go.Extern.Stop Go.Stop Go.Extern Go.Maps Go.Sort Go.Shelf
set_option maxRecDepth 100000

/-- The block of that number within a function's code. -/
def blockAt (n : Nat) : Code → Option Code
  | .block m c => if m = n then some (.block m c) else blockAt n c
  | .loop c => blockAt n c
  | .seq a b => match blockAt n a with
    | some c => some c
    | none => blockAt n b
  | .scope c => blockAt n c
  | .cond _ a b => match blockAt n a with
    | some c => some c
    | none => blockAt n b
  | _ => none
/-- The region of that number. -/
def regionAt (n : Nat) : Code → Option Code
  | .region m o d => if m = n then some (.region m o d) else none
  | .block _ c => regionAt n c
  | .loop c => regionAt n c
  | .seq a b => match regionAt n a with
    | some c => some c
    | none => regionAt n b
  | .scope c => regionAt n c
  | .cond _ a b => match regionAt n a with
    | some c => some c
    | none => regionAt n b
  | _ => none
/-- The branching on that slot. -/
def condAt (n : Nat) : Code → Option Code
  | .block _ c => condAt n c
  | .loop c => condAt n c
  | .seq a b => match condAt n a with
    | some c => some c
    | none => condAt n b
  | .scope c => condAt n c
  | .cond (.tmp m) a b => if m = n then some (.cond (.tmp m) a b) else match condAt n a with
    | some c => some c
    | none => condAt n b
  | .cond _ a b => match condAt n a with
    | some c => some c
    | none => condAt n b
  | _ => none

/-- What holds between two calls of FsSizes. -/
structure SzR (fb hb xb : Nat) (E : TE) (lim : Nat) (o : Option (List Int)) (w : World) : Prop where
  st : SzSt fb hb E lim w o
  no : HNo fb hb E w
  x1 : w.cell? ⟨xb, 1, none⟩ = some (ptr fb)
  xn : xb ≠ E.d ∧ xb ≠ E.g ∧ xb ≠ E.mb ∧ xb ≠ fb
  tn : E.tn = 10
  k : E.k = 113
section
variable {fb hb xb : Nat} {E : TE} {lim lim' : Nat} {o o' : Option (List Int)} {w w' : World}
theorem SzR.below (h : SzR fb hb xb E lim o w) (hB : Below w.heap.size w w') : SzR fb hb xb E lim o w' := ⟨h.st.below hB, h.no.below hB, (hB.cell (p := ⟨xb, 1, none⟩) (lt_of_cell (a := ⟨xb, 1, none⟩) h.x1)).trans h.x1, h.xn, h.tn, h.k⟩
theorem SzR.turn (h : SzR fb hb xb E lim o w) (hT : E.Turns fb w w') (hst : SzSt fb hb E.rest lim' w' o') : SzR fb hb xb E.rest lim' o' w' :=
  ⟨hst, ⟨(h.no.turns hT).no, h.no.ne⟩, (hT.cell (p := ⟨xb, 1, none⟩) (lt_of_cell (a := ⟨xb, 1, none⟩) h.x1) (by have := h.xn; simp; omega)).trans h.x1, h.xn, h.tn, h.k⟩
end
/-- The statement's own cell. -/
def XSz (xb fb : Nat) (w : World) : Prop := w.cell? ⟨xb, 1, none⟩ = some (ptr fb)
theorem XSz.out {xb fb : Nat} {w : World} (h : XSz xb fb w) : w.cell? ⟨xb, 1, none⟩ = some (ptr fb) := h
/-- What region 13 reads. -/
structure SzT (xb fb rb sb B : Nat) (bv : Value) (zs : List Int) (f c n : Int) (w : World) : Prop where
  x : w.cell? ⟨xb, 1, none⟩ = some (ptr fb)
  r : RmAt w rb f 0 c 113
  s : InAt w sb false n 0
  b : OwnV B w bv zs
  l : B ≤ rb ∧ B ≤ sb
theorem SzT.below {xb fb rb sb B : Nat} {bv : Value} {zs : List Int} {f c n : Int} {w w' : World} (h : SzT xb fb rb sb B bv zs f c n w) (hB : Below w.heap.size w w') : SzT xb fb rb sb B bv zs f c n w' := ⟨(hB.cell (p := ⟨xb, 1, none⟩) (lt_of_cell (a := ⟨xb, 1, none⟩) h.x)).trans h.x, h.r.below hB, h.s.below hB, h.b.keep (Apart.of_below (bs := []) hB) (by simp), h.l⟩
theorem SzT.turn {xb fb rb sb B : Nat} {bv : Value} {zs : List Int} {f c n : Int} {w w' : World} {bs : List Nat} (h : SzT xb fb rb sb B bv zs f c n w) (hA : Apart bs w w') (hlow : ∀ k ∈ bs, k < B) (hx : xb ∉ bs) : SzT xb fb rb sb B bv zs f c n w' := ⟨(hA.cell (p := ⟨xb, 1, none⟩) (lt_of_cell (a := ⟨xb, 1, none⟩) h.x) hx).trans h.x, h.r.keep hA (fun hm => by have := hlow _ hm; have := h.l; omega), h.s.keep hA (fun hm => by have := hlow _ hm; have := h.l; omega), h.b.keep hA hlow, h.l⟩
theorem aKids1 : kidsT aK1 aT1 1 = [2] := by
  have e : namesT aT1 1 = [[97]] := by
    have e1 : (aT1 1).map Rec.s = [[97]] := rfl
    unfold namesT
    rw [e1]
    simp [sortS]
  unfold kidsT
  rw [e]
  rfl
theorem aSound1 : Sound aK1 aT1 10 [[1], [2]] := sound_flat (by omega) aKids1 (by simp) (by simp) (fun x hx => by simp at hx; subst hx; exact ⟨by omega, by omega, by decide⟩) (fun id a _ c => by rcases aUsed id a c with rfl | rfl <;> simp)
section
variable {fb hb xb : Nat} {E : TE} {lim lim' : Nat} {zs : List Int} {w w' : World}
theorem sz_check (h : SzR fb hb xb E lim (some zs) w) (hlim : lim ≤ 300000000) :
    Calls Tryz.prog 13 #[ptr fb] w fun e w' => e = .returned .nilIface ∧ SzR fb hb xb E.rest (lim + 1000) (some zs) w' ∧ E.Turns fb w w' := by
  obtain ⟨D, f, h1, h2, h3⟩ := h.st
  refine (fCheck_ok h3 (lv := [[1], [2]]) (by rw [h.tn]; exact aSound1) (by rw [h.k]; omega) hlim).mono ?_
  rintro e w' ⟨rfl, hz, hT⟩
  exact ⟨rfl, h.turn hT ⟨D, f, h1, h2, hz⟩, hT⟩
theorem sz_get (h : SzR fb hb xb E lim (some zs) w) (hlim : lim ≤ 300000000) :
    Calls Tryz.prog 9 #[ptr fb, .string ⟨#[47, 97]⟩] w fun e w' => ∃ v, e = .returned (.tuple #[v, .nilIface]) ∧ OwnV w.heap.size w' v zs ∧ SzR fb hb xb E.rest (lim + 1000) (some zs) w' ∧ E.Turns fb w w' := by
  obtain ⟨D, f, h1, h2, h3⟩ := h.st
  refine (fGet_ok (path := [47, 97]) (get_ok h3 (path := [47, 97]) (l := [[97]]) (by simp) (by decide) (q := 2) (by rfl) (by rfl) hlim)).mono ?_
  rintro e w' ⟨v, rfl, hV, hz, hT⟩
  rw [h1] at hV
  exact ⟨v, rfl, hV, h.turn hT ⟨D, f, h1, h2, hz⟩, hT⟩
theorem sz_room (h : SzR fb hb xb E lim (some zs) w) (hlim : lim ≤ 300000000) :
    Calls Tryz.prog 10 #[ptr fb] w fun e w' => ∃ (f : Nat) (c : Int), (f : Int) + blk (zs.length : Int) = 112 ∧ e = .returned (.tuple #[rmV (f : Nat) 0 c 113, .nilIface]) ∧ SzR fb hb xb E.rest (lim + 1000) (some zs) w' ∧ E.Turns fb w w' := by
  obtain ⟨D, f, h1, h2, h3⟩ := h.st
  refine (fRoom_ok h3 hlim).mono ?_
  rintro e w' ⟨rfl, hz, hT⟩
  exact ⟨f, _, h2, by rw [h.k]; rfl, h.turn hT ⟨D, f, h1, h2, hz⟩, hT⟩
theorem sz_stat (h : SzR fb hb xb E lim (some zs) w) (hlim : lim ≤ 300000000) :
    Calls Tryz.prog 11 #[ptr fb, .string ⟨#[47, 97]⟩] w fun e w' => e = .returned (.tuple #[inV false (zs.length : Nat) 0, .nilIface]) ∧ SzR fb hb xb E.rest (lim + 1000) (some zs) w' ∧ E.Turns fb w w' := by
  obtain ⟨D, f, h1, h2, h3⟩ := h.st
  refine (fStat_ok h3 h.no (path := [47, 97]) (l := [[97]]) (by simp) (by decide) (q := 2) (by rfl) (by rfl) hlim).mono ?_
  rintro e w' ⟨rfl, hz, hT⟩
  exact ⟨by rw [h1], h.turn hT ⟨D, f, h1, h2, hz⟩, hT⟩
end
section
variable {fb hb xb : Nat} {E : TE} {lim : Nat} {o : Option (List Int)} {w : World}
theorem sz_big (h : SzR fb hb xb E lim o w) (ba : Option Addr) (bc : Nat) :
    Calls Tryz.prog 7 #[ptr fb, .string ⟨#[47, 97]⟩, .slice ba 4001 bc] w fun e w' => ∃ b ll, e = .returned (flt b) ∧ Chain w' ((⟨#[112, 117, 116]⟩, ⟨#[47, 97]⟩) :: ll) (num 5) (flt b) ∧ SzR fb hb xb E.rest lim o w' := by
  cases ho : o with
  | none =>
    rw [ho] at h
    have hz : Fsz fb 0 hb E rootK (fun _ => []) (fun _ => []) 113 lim w := h.st
    refine (fPut_err (path := [47, 97]) (put_big hz (path := [47, 97]) (l := []) (s := [97]) (by simp) (by decide) (by omega) false)).mono ?_
    rintro e w' ⟨ev, rfl, ⟨ll, b, rfl, hc⟩, h2, hT⟩
    exact ⟨b, ll, rfl, hc, h.turn hT h2⟩
  | some zs =>
    rw [ho] at h
    obtain ⟨D, f, h1, h2, h3⟩ := h.st
    refine (fPut_err (path := [47, 97]) (put_big h3 (path := [47, 97]) (l := []) (s := [97]) (by simp) (by decide) (by omega) false)).mono ?_
    rintro e w' ⟨ev, rfl, ⟨ll, b, rfl, hc⟩, hz, hT⟩
    exact ⟨b, ll, rfl, hc, h.turn hT ⟨D, f, h1, h2, hz⟩⟩
theorem SzR.ground (h : SzR fb hb xb E lim o w) : Ground w := by
  cases o with
  | none => exact (show Fsz fb 0 hb E rootK (fun _ => []) (fun _ => []) 113 lim w from h.st).s.to.ground
  | some zs =>
    obtain ⟨D, f, h1, h2, h3⟩ := h.st
    exact h3.s.to.ground
end
theorem XSz.below {xb fb : Nat} {w w' : World} (h : XSz xb fb w) (hB : Below w.heap.size w w') : XSz xb fb w' := (hB.cell (p := ⟨xb, 1, none⟩) (lt_of_cell (a := ⟨xb, 1, none⟩) h)).trans h
end Go.Proofs.YtbgldfbbfnbldaaGreatDoor
/- FsSizes: the Put. -/
namespace Go.Proofs.YtbgldfbbfnbldaaGreatDoor
open Go.RowKit Go.Extern.Stop Go.Stop Go.Extern Go.Maps Go.Sort Go.Shelf
set_option maxRecDepth 1000000

set_option maxHeartbeats 8000000 in
theorem sz8 (w : World) (fb hb xb : Nat) (E : TE) (lim i n : Nat) (o : Option (List Int)) (hn : n ≤ 4000) (hlim : Hid (lim ≤ 300000000)) (hR : Hid (SzR fb hb xb E lim o w))
    (x0 x1 x2 x6 x7 x8 x9 x10 x11 x12 x13 x14 x15 x16 x17 x18 x19 x20 x21 x22 x23 x24 x25 x26 x27 x28 x29 x30 x31 x32 x33 x34 x35 x36 x37 x38 x39 x40 x41 x42 x43 x44 x45 x46 x47 x48 x49 x50 x51 x52 x53 x54 x55 x56 x57 x58 x59 x60 x61 x62 x63 x64 x65 x66 x67 x68 x69 x70 x71 x72 x73 x74 x75 x76 x77 x78 x79 x80 x81 x82 x83 x84 x85 x86 x87 x88 x89 x90 x91 x92 x93 x94 x95 x96 x97 x98 x99 x100 x101 x102 x103 x104 x105 x106 x107 x108 x109 x110 x111 x112 x113 x114 x115 x116 x117 : Value) (KK : Act → World → Prop) (Q : Exit → Act → World → Prop)
    (hKK : Hid (∀ (v31 v32 v33 v34 v35 v36 v37 v38 v39 : Value)  (w' : World), SzR fb hb xb E.rest (lim + 1000) (some (text11 (i : Int) n)) w' → KK ⟨#[x0, x1, x2, ptr xb, .int .i64 (i : Nat), .int .i64 (n : Nat), x6, x7, x8, x9, x10, x11, x12, x13, x14, x15, x16, x17, x18, x19, x20, x21, x22, x23, x24, x25, x26, x27, x28, x29, x30, v31, v32, v33, v34, v35, v36, v37, v38, v39, .bool false, x41, x42, x43, x44, x45, x46, x47, x48, x49, x50, x51, x52, x53, x54, x55, x56, x57, x58, x59, x60, x61, x62, x63, x64, x65, x66, x67, x68, x69, x70, x71, x72, x73, x74, x75, x76, x77, x78, x79, x80, x81, x82, x83, x84, x85, x86, x87, x88, x89, x90, x91, x92, x93, x94, x95, x96, x97, x98, x99, x100, x101, x102, x103, x104, x105, x106, x107, x108, x109, x110, x111, x112, x113, x114, x115, x116, x117], []⟩ w'))
    (hQp : Hid (∀ x a a' w, Q (.panic x) a w → a.defers = a'.defers → Q (.panic x) a' w)) :
    Code.wp Tryz.prog (((Tryz.f3.body.bind (regionAt 8)).getD .skip)) (Exit.then KK Q) ⟨#[x0, x1, x2, ptr xb, .int .i64 (i : Nat), .int .i64 (n : Nat), x6, x7, x8, x9, x10, x11, x12, x13, x14, x15, x16, x17, x18, x19, x20, x21, x22, x23, x24, x25, x26, x27, x28, x29, x30, x31, x32, x33, x34, x35, x36, x37, x38, x39, x40, x41, x42, x43, x44, x45, x46, x47, x48, x49, x50, x51, x52, x53, x54, x55, x56, x57, x58, x59, x60, x61, x62, x63, x64, x65, x66, x67, x68, x69, x70, x71, x72, x73, x74, x75, x76, x77, x78, x79, x80, x81, x82, x83, x84, x85, x86, x87, x88, x89, x90, x91, x92, x93, x94, x95, x96, x97, x98, x99, x100, x101, x102, x103, x104, x105, x106, x107, x108, x109, x110, x111, x112, x113, x114, x115, x116, x117], []⟩ w := by
  have hu := hQp
  clear hu
  conv => arg 2; whnf
  try dsimp only
  have hRd := hidden (hR.out.below (below_drew1 w))
  have hS0 : Hid (XSz xb fb w.drew) := hidden hRd.out.x1
  have kT := hidden (fun (wx : World) => Text11_calls (i : Int) n (by omega) wx)
  clear hR
  refine wp_region_held_drew (S := XSz xb fb) (by kernel_rfl) hS0.out ?_
  intro _
  generalize w.drew = wd at *
  refine wpAnyH_take (i := 0) (v := ?_) rfl (by kernel_rfl) (by kernel_rfl) (by kernel_rfl) (fun _ _ _ h => hQp.out _ _ _ _ h rfl) (Or.inl ⟨by rfl, ?_⟩) hS0.out ?_
  rotate_left
  · intro w hw; clear hw; go_simp; try (with_reducible rfl)
  refine wpAnyH_take (i := 1) (v := ?_) rfl (by kernel_rfl) (by kernel_rfl) (by kernel_rfl) (fun _ _ _ h => hQp.out _ _ _ _ h rfl) (Or.inl ⟨by rfl, ?_⟩) hS0.out ?_
  rotate_left
  · intro w hw; clear hw; go_simp; try (with_reducible rfl)
  refine wpAnyH_take (i := 2) (v := ?_) rfl (by kernel_rfl) (by kernel_rfl) (by kernel_rfl) (fun _ _ _ h => hQp.out _ _ _ _ h rfl) (Or.inl ⟨by rfl, ?_⟩) hS0.out ?_
  rotate_left
  · intro w hw; clear hw; go_simp; try (with_reducible rfl)
  refine wpAnyH_take (i := 3) (v := ?_) rfl (by kernel_rfl) (by kernel_rfl) (by kernel_rfl) (fun _ _ _ h => hQp.out _ _ _ _ h rfl) (Or.inl ⟨by rfl, ?_⟩) hS0.out ?_
  rotate_left
  · intro w hw; have c := (hw).out; have lc := lt_of_cell (a := ⟨xb, 1, none⟩) c; clear hw; go_simp; try (with_reducible rfl)
  refine wpAnyH_take (i := 4) (v := ?_) rfl (by kernel_rfl) (by kernel_rfl) (by kernel_rfl) (fun _ _ _ h => hQp.out _ _ _ _ h rfl) (Or.inl ⟨by rfl, ?_⟩) hS0.out ?_
  rotate_left
  · intro w hw; clear hw; go_simp; try (with_reducible rfl)
  refine wpAnyH_ready (rs := [5]) (by kernel_rfl) (by simp) ?_
  refine AllReadyH.cons rfl (fun K hK => ?_) AllReadyH.nil
  go_simp
  refine hK.out _ _ hS0.out (fun _ => ?_)
  clear hK K
  refine wpAnyH_ready (rs := [6]) (by kernel_rfl) (by simp) ?_
  refine AllReadyH.cons rfl (fun K hK => ?_) AllReadyH.nil
  go_simp
  go_wp2_with (go_at_call 8; refine (kT.out _).mono ?_; rintro ev wT ⟨rfl, hBT⟩)
  refine hK.out _ _ (XSz.below hS0.out hBT) (fun hSn1 => ?_)
  have hRT := hidden (hRd.out.below hBT)
  have hmT : E.mb < wT.heap.size := hRT.out.st.lts.1.2.2.2.2.1
  clear hBT
  clear hK K
  refine wpAnyH_ready (rs := [7]) (by kernel_rfl) (by simp) ?_
  refine AllReadyH.cons rfl (fun K hK => ?_) AllReadyH.nil
  obtain ⟨cap, w5, hcv, hbc, hB5⟩ := bytes_of E.mb wT (text11 (i : Int) n) (text11_range _ _) (by rw [text11_len]; omega) hmT
  rw [text11_len] at hcv hbc
  go_simp
  refine hK.out _ _ (XSz.below hSn1 hB5) (fun hSn2 => ?_)
  have hR5 := hidden (hRT.out.below hB5)
  replace hbc := hidden hbc
  clear hcv hB5
  clear hK K
  refine wpAnyH_ready (rs := [8]) (by kernel_rfl) (by simp) ?_
  refine AllReadyH.cons rfl (fun K hK => ?_) AllReadyH.nil
  have kP := hidden (put_sz hR5.out.st hR5.out.tn hbc.out (by rw [text11_len]; omega) hlim.out)
  go_simp
  go_wp2_with (go_at_call 7; refine (kP.out).mono ?_; rintro ev w6 ⟨rfl, hst6, hT6⟩)
  refine hK.out _ _ ((hR5.out.turn hT6 hst6).x1) (fun hSn3 => ?_)
  have hR6 := hidden (hR5.out.turn hT6 hst6)
  clear hT6 hst6 kP
  clear hK K
  refine wpAnyH_ready (rs := [9]) (by kernel_rfl) (by simp) ?_
  refine AllReadyH.cons rfl (fun K hK => ?_) AllReadyH.nil
  go_simp
  refine hK.out _ _ hSn3 (fun _ => ?_)
  clear hK K
  refine wpAnyH_done (by kernel_rfl) ?_ _
  refine hKK.out _ _ _ _ _ _ _ _ _ w6 hR6.out
end Go.Proofs.YtbgldfbbfnbldaaGreatDoor
/- FsSizes: one byte too many. -/
namespace Go.Proofs.YtbgldfbbfnbldaaGreatDoor
open Go.RowKit Go.Extern.Stop Go.Stop Go.Extern Go.Maps Go.Sort Go.Shelf
set_option maxRecDepth 1000000

set_option maxHeartbeats 8000000 in
theorem sz15 (w : World) (fb hb xb : Nat) (E : TE) (lim : Nat) (o : Option (List Int)) (hGT : Hid (GT E.w0)) (hR : Hid (SzR fb hb xb E lim o w))
    (x0 x1 x2 x4 x5 x6 x7 x8 x9 x10 x11 x12 x13 x14 x15 x16 x17 x18 x19 x20 x21 x22 x23 x24 x25 x26 x27 x28 x29 x30 x31 x32 x33 x34 x35 x36 x37 x38 x39 x40 x41 x42 x43 x44 x45 x46 x47 x48 x49 x50 x51 x52 x53 x54 x55 x56 x57 x58 x59 x60 x61 x62 x63 x64 x65 x66 x67 x68 x69 x70 x71 x72 x73 x74 x75 x76 x77 x78 x79 x80 x81 x82 x83 x84 x85 x86 x87 x88 x89 x90 x91 x92 x93 x94 x95 x96 x97 x98 x99 x100 x101 x102 x103 x104 x105 x106 x107 x108 x109 x110 x111 x112 x113 x114 x115 x116 x117 : Value) (KK : Act → World → Prop) (Q : Exit → Act → World → Prop)
    (hKK : Hid (∀ (v108 v109 v110 v111 v112 v113 v114 v115 v116 v117 : Value)  (w' : World), Below E.w0.heap.size E.w0 w' → KK ⟨#[x0, x1, .bool true, ptr xb, x4, x5, x6, x7, x8, x9, x10, x11, x12, x13, x14, x15, x16, x17, x18, x19, x20, x21, x22, x23, x24, x25, x26, x27, x28, x29, x30, x31, x32, x33, x34, x35, x36, x37, x38, x39, x40, x41, x42, x43, x44, x45, x46, x47, x48, x49, x50, x51, x52, x53, x54, x55, x56, x57, x58, x59, x60, x61, x62, x63, x64, x65, x66, x67, x68, x69, x70, x71, x72, x73, x74, x75, x76, x77, x78, x79, x80, x81, x82, x83, x84, x85, x86, x87, x88, x89, x90, x91, x92, x93, x94, x95, x96, x97, x98, x99, x100, x101, x102, x103, x104, x105, x106, x107, v108, v109, v110, v111, v112, v113, v114, v115, v116, v117], []⟩ w'))
    (hQp : Hid (∀ x a a' w, Q (.panic x) a w → a.defers = a'.defers → Q (.panic x) a' w)) :
    Code.wp Tryz.prog (((Tryz.f3.body.bind (regionAt 15)).getD .skip)) (Exit.then KK Q) ⟨#[x0, x1, x2, ptr xb, x4, x5, x6, x7, x8, x9, x10, x11, x12, x13, x14, x15, x16, x17, x18, x19, x20, x21, x22, x23, x24, x25, x26, x27, x28, x29, x30, x31, x32, x33, x34, x35, x36, x37, x38, x39, x40, x41, x42, x43, x44, x45, x46, x47, x48, x49, x50, x51, x52, x53, x54, x55, x56, x57, x58, x59, x60, x61, x62, x63, x64, x65, x66, x67, x68, x69, x70, x71, x72, x73, x74, x75, x76, x77, x78, x79, x80, x81, x82, x83, x84, x85, x86, x87, x88, x89, x90, x91, x92, x93, x94, x95, x96, x97, x98, x99, x100, x101, x102, x103, x104, x105, x106, x107, x108, x109, x110, x111, x112, x113, x114, x115, x116, x117], []⟩ w := by
  have hu := hQp
  clear hu
  conv => arg 2; whnf
  try dsimp only
  have hRd := hidden (hR.out.below (below_drew1 w))
  have hS0 : Hid (XSz xb fb w.drew) := hidden hRd.out.x1
  have hmake := hidden (fun (wx : World) => show ∃ wy, (Instr.makeSlice 33 (.int .i64 4001) (.int .i64 4001)).run Tryz.prog wx = .ok (.slice (some ⟨wx.heap.size, 0, none⟩) 4001 4001) wy ∧ Below wx.heap.size wx wy from ⟨_, make_bytes 4001 (by omega) wx, (Below.refl _ _).alloc (Nat.le_refl _) _⟩)
  clear hR
  refine wp_region_held_drew (S := XSz xb fb) (by kernel_rfl) hS0.out ?_
  intro _
  generalize w.drew = wd at *
  refine wpAnyH_take (i := 0) (v := ?_) rfl (by kernel_rfl) (by kernel_rfl) (by kernel_rfl) (fun _ _ _ h => hQp.out _ _ _ _ h rfl) (Or.inl ⟨by rfl, ?_⟩) hS0.out ?_
  rotate_left
  · intro w hw; clear hw; go_simp; try (with_reducible rfl)
  refine wpAnyH_take (i := 1) (v := ?_) rfl (by kernel_rfl) (by kernel_rfl) (by kernel_rfl) (fun _ _ _ h => hQp.out _ _ _ _ h rfl) (Or.inl ⟨by rfl, ?_⟩) hS0.out ?_
  rotate_left
  · intro w hw; clear hw; go_simp; try (with_reducible rfl)
  refine wpAnyH_take (i := 2) (v := ?_) rfl (by kernel_rfl) (by kernel_rfl) (by kernel_rfl) (fun _ _ _ h => hQp.out _ _ _ _ h rfl) (Or.inl ⟨by rfl, ?_⟩) hS0.out ?_
  rotate_left
  · intro w hw; clear hw; go_simp; try (with_reducible rfl)
  refine wpAnyH_take (i := 3) (v := ?_) rfl (by kernel_rfl) (by kernel_rfl) (by kernel_rfl) (fun _ _ _ h => hQp.out _ _ _ _ h rfl) (Or.inl ⟨by rfl, ?_⟩) hS0.out ?_
  rotate_left
  · intro w hw; have c := (hw).out; have lc := lt_of_cell (a := ⟨xb, 1, none⟩) c; clear hw; go_simp; try (with_reducible rfl)
  refine wpAnyH_ready (rs := [4]) (by kernel_rfl) (by simp) ?_
  refine AllReadyH.cons rfl (fun K hK => ?_) AllReadyH.nil
  obtain ⟨wM, hmk, hBM⟩ := hmake.out wd
  go_simp
  refine hK.out _ _ (XSz.below hS0.out hBM) (fun hSn1 => ?_)
  have hRM := hidden (hRd.out.below hBM)
  clear hmk hBM
  clear hK K
  refine wpAnyH_ready (rs := [5]) (by kernel_rfl) (by simp) ?_
  refine AllReadyH.cons rfl (fun K hK => ?_) AllReadyH.nil
  have kP := hidden (sz_big hRM.out (some ⟨wd.heap.size, 0, none⟩) 4001)
  go_simp
  go_wp2_with (go_at_call 7; refine (kP.out).mono ?_; rintro ev w6 ⟨pb, ll, rfl, hc6, hR6⟩)
  refine hK.out _ _ (hR6.x1) (fun hSn2 => ?_)
  have hW6 := hidden (hR6.st.lts.2.2)
  have hG6 := hidden hR6.ground
  replace hc6 := hidden hc6
  clear hR6 kP
  clear hK K
  refine wpAnyH_ready (rs := [6]) (by kernel_rfl) (by simp) ?_
  refine AllReadyH.cons rfl (fun K hK => ?_) AllReadyH.nil
  have kI := hidden (law_is 5 (by decide) w6 _ _ ll (flt pb) hc6.out (hGT.out.below hW6.out))
  go_simp
  go_wp2_with (go_at_call 14; refine (kI.out).mono ?_; rintro ev w7 ⟨rfl, hB7⟩)
  refine hK.out _ _ (XSz.below hSn2 hB7) (fun hSn3 => ?_)
  have hG7 := hidden (hG6.out.below hB7)
  have hW7 := hidden (hW6.out.trans (hB7.mono hW6.out.size))
  clear hB7 kI
  clear hK K
  refine wpAnyH_ready (rs := [7]) (by kernel_rfl) (by simp) ?_
  refine AllReadyH.cons rfl (fun K hK => ?_) AllReadyH.nil
  go_simp
  refine hK.out _ _ hSn3 (fun _ => ?_)
  clear hK K
  refine wpAnyH_ready (rs := [8]) (by kernel_rfl) (by simp) ?_
  refine AllReadyH.cons rfl (fun K hK => ?_) AllReadyH.nil
  have kA := hidden (awake11_calls w7 hG7.out (hGT.out.below hW7.out))
  go_simp
  go_wp2_with (go_at_call 15; refine (kA.out).mono ?_; rintro ev w8 ⟨rfl, hB8⟩)
  refine hK.out _ _ (XSz.below hSn3 hB8) (fun hSn4 => ?_)
  have hW8 := hidden (hW7.out.trans (hB8.mono hW7.out.size))
  clear hB8 kA
  clear hK K
  refine wpAnyH_ready (rs := [9]) (by kernel_rfl) (by simp) ?_
  refine AllReadyH.cons rfl (fun K hK => ?_) AllReadyH.nil
  go_simp
  refine hK.out _ _ hSn4 (fun _ => ?_)
  clear hK K
  refine wpAnyH_ready (rs := [10]) (by kernel_rfl) (by simp) ?_
  refine AllReadyH.cons rfl (fun K hK => ?_) AllReadyH.nil
  go_simp
  refine hK.out _ _ hSn4 (fun _ => ?_)
  clear hK K
  refine wpAnyH_done (by kernel_rfl) ?_ _
  refine hKK.out _ _ _ _ _ _ _ _ _ _ w8 hW8.out
end Go.Proofs.YtbgldfbbfnbldaaGreatDoor
